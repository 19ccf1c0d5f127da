import PyProof.Rows.All
import Wide.All
import OpenK.AllK
import Wide.FinOn
import PySem.Challenge.RW_dotscreen_k33_lost_at_the_edges
import Lean
import PyProof.EqAt
import PyProof.EqKinds
import PyProof.TupleCall
import PyProof.CompFree
import PyProof.StationsW
import PyProof.ExcClass3
import PyProof.Cells
import PyProof.PassesOwn
import PyProof.RangeIter
import PyProof.TableTree
import PyProof.ZipIter
import PyProof.Draws
import PyProof.TupleIter
import PyProof.EnumMake
import PyProof.EnumStmt
import KE.KDictList
import PyProof.Rows.SortWalk
import KE.KRevIter
import PyProof.CollectIter
import KE.KRevSl
import KE.KMinKey
import KE.KLam
import PyProof.DictIter
import PySem.Str
import KE.IntBitsLaws
import PyProof.FitsBits
import PyProof.Rows.InDataRows
import KE.KNestM
set_option Elab.async false
set_option linter.all false
set_option maxRecDepth 100000
def PySem.W.Fast.tw5123495777467977603:Nat:=0
def PySem.W.Fast.tw12414841538435440445:Nat:=0
def PySem.W.Fast.tw5160416192972405257:Nat:=0
def PySem.W.Fast.tw12732267016710897972:Nat:=0
def PySem.W.Fast.tw13618662024065094986:Nat:=0
def PySem.W.Fast.tw3476989744152772190:Nat:=0
def PySem.W.Fast.tw4661749174399071148:Nat:=0
def PySem.W.Fast.tw512733084208199272:Nat:=0
def PySem.W.Fast.tw13834601218702403750:Nat:=0
def PySem.W.Fast.tw16775104778904383108:Nat:=0
def PySem.W.Fast.tw17047395325965660033:Nat:=0
def PySem.W.Fast.tw6637662560925484354:Nat:=0
def PySem.W.Fast.tw1897929754326639994:Nat:=0
def PySem.W.Fast.tw14608207047608227168:Nat:=0
def PySem.W.Fast.tw5915444515009167396:Nat:=0
def PySem.W.Fast.tw9342235775902820011:Nat:=0
def PySem.W.Fast.tw13920058186112067175:Nat:=0
def PySem.W.Fast.tw8025713367600251453:Nat:=0
def PySem.W.Fast.tw4706045783294013573:Nat:=0
def PySem.W.Fast.tw18135272373746138989:Nat:=0
def PySem.W.Fast.tw5915695346798091318:Nat:=0
def PySem.W.Fast.tw401507297904499281:Nat:=0
def PySem.W.Fast.tw15248547607477963360:Nat:=0
def PySem.W.Fast.tw13329826776830067396:Nat:=0
def PySem.W.Fast.tw228785012289422233:Nat:=0
def PySem.W.Fast.tw16955846455653885141:Nat:=0
def PySem.W.Fast.tw16729787718581734473:Nat:=0
def PySem.W.Fast.tw13392211222330536396:Nat:=0
def PySem.W.Fast.tw6316751623484374347:Nat:=0
def PySem.W.Fast.tw17424319171620760606:Nat:=0
def PySem.W.Fast.tw11409472246250870254:Nat:=0
def PySem.W.Fast.tw10143567452291666734:Nat:=0
def PySem.W.Fast.tw5603729522501626336:Nat:=0
def PySem.W.Fast.tw442841799334173625:Nat:=0
def PySem.W.Fast.tw10350840509958846836:Nat:=0
def PySem.W.Fast.tw11182853965090186375:Nat:=0
def PySem.W.Fast.tw17577499055343768925:Nat:=0
def PySem.W.Fast.tw474215835358968813:Nat:=0
def PySem.W.Fast.tw9302324320430872895:Nat:=0
def PySem.W.Fast.tw2129438151410726230:Nat:=0
section
namespace L2
open PySem PySem.Spec PyProof.Rows
noncomputable abbrev Key:=Sum Int Str
noncomputable def zah:Key→Value→Bool
  | .inl k,v=>Value.isInt k v
  | .inr x,v=>Value.isStrOf x v
noncomputable def keyH (w:World):Key→Int
  | .inl k=>hashInt k
  | .inr x=>hashStr w x
theorem Yh:∀ {k:Key} {v:Value},zah k v=true→(∃ i t,k=Sum.inl i∧v=Value.int i t)∨(∃ x t,k=Sum.inr x∧v=Value.str x t)
  | .inl i,v,h=>by
    obtain ⟨t,e⟩:=Value.isInt_shape (k:=i) (v:=v) h
    exact .inl ⟨i,t,rfl,e⟩
  | .inr x,v,h=>by
    obtain ⟨t,e⟩:=Value.isStrOf_shape (x:=x) (v:=v) h
    exact .inr ⟨x,t,rfl,e⟩
theorem zbg (i:Int) (t:Tok):zah (.inl i) (.int i t)=true:=by simp [zah,Value.isInt]
theorem zbh (x:Str) (t:Tok):zah (.inr x) (.str x t)=true:=by simp [zah,Value.isStrOf]
theorem qbZ (a b:Int):decide ((Sum.inl a:Key)=Sum.inl b)=(a == b):=by
  by_cases e:a=b
  · subst e; simp
  · have h:¬ (Sum.inl a:Key)=Sum.inl b:=fun q=>e (Sum.inl.inj q)
    rw [decide_eq_false h]
    exact (beq_eq_false_iff_ne.mpr e).symm
theorem Qb5 (a b:Str):decide ((Sum.inr a:Key)=Sum.inr b)=decide (a=b):=by
  by_cases e:a=b
  · subst e; simp
  · have h:¬ (Sum.inr a:Key)=Sum.inr b:=fun q=>e (Sum.inr.inj q)
    rw [decide_eq_false h,decide_eq_false e]
theorem yb5 (a:Int) (b:Str):decide ((Sum.inl a:Key)=Sum.inr b)=false:=decide_eq_false (fun q=>nomatch q)
theorem qb4 (a:Str) (b:Int):decide ((Sum.inr a:Key)=Sum.inl b)=false:=decide_eq_false (fun q=>nomatch q)
noncomputable def Qg (prog:Program) (w:World):PySem.KeyKind prog w Key where
  is:=zah
  hash:=keyH w
  inj:=fun v a b ha hb=>by
    rcases Yh ha with ⟨i,t,rfl,rfl⟩ | ⟨x,t,rfl,rfl⟩
    · rcases Yh hb with ⟨j,u,rfl,e⟩ | ⟨y,u,rfl,e⟩
      · injection e with e1 _; rw [e1]
      · exact nomatch e
    · rcases Yh hb with ⟨j,u,rfl,e⟩ | ⟨y,u,rfl,e⟩
      · exact nomatch e
      · injection e with e1 _; rw [e1]
  byValue:=fun k v h=>by
    rcases Yh h with ⟨i,t,rfl,rfl⟩ | ⟨x,t,rfl,rfl⟩ <;> rfl
  pyHash:=fun hv h=>by
    rcases Yh hv with ⟨i,t,rfl,rfl⟩ | ⟨x,t,rfl,rfl⟩
    · exact wpAny_pyHash_int h
    · exact wpAny_pyHash_str h
  eqBool:=fun hu hv h=>by
    rcases Yh hu with ⟨i,t,rfl,rfl⟩ | ⟨x,t,rfl,rfl⟩
    · rcases Yh hv with ⟨j,u,rfl,rfl⟩ | ⟨y,u,rfl,rfl⟩
      · rw [qbZ] at h; exact wpAny_eqBool_int h
      · rw [yb5] at h; exact SeqAt.EqAt.int_str i t y u _ _ _ _ h
    · rcases Yh hv with ⟨j,u,rfl,rfl⟩ | ⟨y,u,rfl,rfl⟩
      · rw [qb4] at h; exact SeqAt.EqAt.str_int x t j u _ _ _ _ h
      · rw [Qb5] at h; exact wpAny_eqBool_str h
  «strs»:=fun k x t v h=>by
    rcases Yh h with ⟨i,u,rfl,e⟩ | ⟨y,u,rfl,e⟩
    · exact nomatch e
    · injection e with e1 _
      subst e1
      cases v <;> rfl
theorem qaK (prog:Program) (w:World) (i:Int) (t:Tok):(Qg prog w).is (.inl i) (.int i t)=true:=zbg i t
theorem ZaJ (prog:Program) (w:World) (x:Str) (t:Tok):(Qg prog w).is (.inr x) (.str x t)=true:=zbh x t
inductive V where
  | non | bl (b:Bool) | int (i:Int) | str (x:Str) | byt (b:Array UInt8) | flt (b:UInt64) | ref (a:Addr) | ty (n:String)
  deriving DecidableEq
noncomputable def RelV:V→Value→Prop
  | .non,u=>u=Value.none
  | .bl b,u=>u=Value.bool b
  | .int i,u=>∃ t,u=Value.int i t
  | .str x,u=>∃ t,u=Value.str x t
  | .byt b,u=>∃ t,u=Value.bytes b t
  | .flt b,u=>∃ t,u=Value.float b t
  | .ref a,u=>u=Value.ref a
  | .ty n,u=>u=Value.type n
noncomputable abbrev Vals:List V→List Value→Prop:=Paired RelV
theorem Vals.length {xs:List V} {us:List Value} (r:Vals xs us):xs.length=us.length:=Paired.length r
theorem Vals.get:∀ {xs:List V} {us:List Value} {i:Nat} {x:V},Vals xs us→xs[i]?=some x→∃ u,us[i]?=some u∧RelV x u
  | _,_,_,_,.nil,e=>by simp at e
  | _,_,0,_,.cons r _,e=>by simp at e; subst e; exact ⟨_,rfl,r⟩
  | _,_,i + 1,x,.cons _ t,e=>by
    obtain ⟨u,h1,h2⟩:=Vals.get (i:=i) (x:=x) t (by simpa using e)
    exact ⟨u,by simpa using h1,h2⟩
theorem Vals.set {x:V} {u:Value} (r:RelV x u):∀ {xs:List V} {us:List Value} (i:Nat),Vals xs us→Vals (xs.set i x) (us.set i u)
  | _,_,_,.nil=>.nil
  | _,_,0,.cons _ t=>.cons r t
  | _,_,i + 1,.cons q t=>.cons q (Vals.set r i t)
theorem Vals.append:∀ {xs ys:List V} {us ws:List Value},Vals xs us→Vals ys ws→Vals (xs++ys) (us++ws)
  | _,_,_,_,.nil,s=>s
  | _,_,_,_,.cons r t,s=>.cons r (Vals.append t s)
theorem Vals.take:∀ {xs:List V} {us:List Value} (n:Nat),Vals xs us→Vals (xs.take n) (us.take n)
  | _,_,0,_=>.nil
  | _,_,_ + 1,.nil=>.nil
  | _,_,n + 1,.cons r t=>.cons r (Vals.take n t)
theorem Vals.drop:∀ {xs:List V} {us:List Value} (n:Nat),Vals xs us→Vals (xs.drop n) (us.drop n)
  | _,_,0,r=>r
  | _,_,_ + 1,.nil=>.nil
  | _,_,n + 1,.cons _ t=>Vals.drop n t
noncomputable def RelO:Option V→Option Value→Prop
  | some v,some u=>RelV v u
  | none,none=>True
  | _,_=>False
noncomputable def KV {κ:Type}:List (κ×V)→List (κ×Value)→Prop:=Paired fun (p:κ×V) (q:κ×Value)=>p.1=q.1∧RelV p.2 q.2
noncomputable def kV:Key→V
  | .inl i=>.int i
  | .inr x=>.str x
inductive HO where
  | lst (xs:List V)
  | tup (xs:List V)
  | dK (kvs:List (Key×V)) | dT (kvs:List (List Key×V))
  | set (S:Int→Bool) (n:Nat)
  | ins (C dx:Addr) (fs:List (Str×V))
  | own (x:Addr)
  | xd (fs:List (Str×V))
  | met (f x:Addr)
  | rng (lo hi:Int)
  | frz (o:Obj) (u:HO)
  | tbl (ps:Array Value)
  | ext (φ:Heap→Prop)
noncomputable abbrev Hp:=Addr→Option HO
noncomputable def upd (H:Hp) (a:Addr) (o:HO):Hp:=fun b=>if b=a then some o else H b
theorem yd {H:Hp} {a:Addr} {o:HO}:upd H a o a=some o:=by unfold upd; rw [if_pos rfl]
theorem Zb {H:Hp} {a b:Addr} {o:HO} (h:b≠a):upd H a o b=H b:=by unfold upd; rw [if_neg h]
theorem ne_of {H:Hp} {a b:Addr} {o u:HO} (h:H a=some o) (h':H b=some u) (d:o≠u):a≠b:=by
  intro e; subst e; rw [h] at h'; exact d (Option.some.inj h')
theorem Yf {H:Hp} {a b:Addr} {o:HO} (h:H a=some o) (h':H b=none):a≠b:=by
  intro e; subst e; rw [h] at h'; cases h'
section
variable (P:Program) (w:World)
noncomputable def ObjOk (H:Hp) (h:Heap) (a:Addr):HO→Prop
  | .lst xs=>xs.length≤sizeLine∧∃ (its:List Value) (n:Nat),Vals xs its∧h.get? a=some {cls:=.type "list",data:=.seq its.toArray n}
  | .tup xs=>xs.length≤sizeLine∧∃ its:List Value,Vals xs its∧IsTup h a its.toArray
  | .dK kvs=>kvs.length≤sizeLine∧(a == sysModules)=false∧∃ vs,KV kvs vs∧h.DictOf (Qg P w) a vs
  | .dT kvs=>kvs.length≤sizeLine∧(a == sysModules)=false∧∃ xs:List (List Key×Addr×Value),
      Paired (fun (p:List Key×V) (q:List Key×Addr×Value)=>p.1=q.1∧H q.2.1=some (.tup (p.1.map kV))∧RelV p.2 q.2.2) kvs xs ∧
      ∃ o es ep,h.get? a=some o∧o.ExactDict∧o.data=.dict es ep∧es.toList=xs.map (entryOfKey (tupleKind (Qg P w)))∧(xs.map (·.1)).Nodup
  | .set S n=>h.SetOf (intKind P w) a S n
  | .ins C dx fs=>H dx=some (.own a)∧fs.length≤1000∧dx≠a∧h.get? a=some (PySem.W.instObj C dx) ∧
      ∃ mA,h.Ns1 dx mA∧(∀ f,RelO (fs.lookup f) (mA f))∧PySem.Within mA (fs.map (·.1))
  | .own _=>∃ o,h.get? a=some o
  | .xd fs=>∃ mA,h.Ns1 a mA∧∀ f,RelO (fs.lookup f) (mA f)
  | .rng lo hi=>∃ t u v,h.get? a=some {cls:=.type "range",data:=.fields #[.int lo t,.int hi u,.int 1 v]}
  | .frz o u=>h.get? a=some o∧ObjOk H h a u
  | .tbl ps=>h.get? a=some {cls:=.none,data:=.fields ps}
  | .met f x=>h.get? a=some (PySem.W.methodObj (.ref f) (.ref x))
  | .ext φ=>φ h∧(∃ o,h.get? a=some o)∧∀ h1 h2:Heap,φ h1→(∀ o,h1.get? a=some o→h2.get? a=some o)→φ h2
noncomputable def HOk (H:Hp) (h:Heap):Prop:=∀ a o,H a=some o→ObjOk P w H h a o
end
section
variable {P:Program} {w:World} {H H':Hp} {h h':Heap} {a:Addr} {o:HO}
theorem ObjOk.lt (x:ObjOk P w H h a o):a < h.objs.size:=by
  cases o with
  | lst xs=>obtain ⟨_,_,_,_,e⟩:=x; exact Heap.lt_size e
  | tup xs=>obtain ⟨_,_,_,p⟩:=x; exact p.lt
  | dK kvs=>obtain ⟨_,_,_,_,o,_,_,e,_⟩:=x; exact Heap.lt_size e
  | dT kvs=>obtain ⟨_,_,_,_,o,_,_,e,_⟩:=x; exact Heap.lt_size e
  | set S n=>obtain ⟨o,_,_,_,e,_⟩:=x; exact Heap.lt_size e
  | ins C dx fs=>obtain ⟨_,_,_,e,_⟩:=x; exact Heap.lt_size e
  | own y=>obtain ⟨_,e⟩:=x; exact Heap.lt_size e
  | xd fs=>obtain ⟨_,⟨_,_,_,e,_⟩,_⟩:=x; exact Heap.lt_size e
  | rng lo hi=>obtain ⟨_,_,_,e⟩:=x; exact Heap.lt_size e
  | frz ob u=>obtain ⟨e,_⟩:=x; exact Heap.lt_size e
  | tbl ps=>exact Heap.lt_size (show h.get? a=some _ from x)
  | met f y=>exact Heap.lt_size (show h.get? a=some _ from x)
  | ext φ=>obtain ⟨_,⟨_,e⟩,_⟩:=x; exact Heap.lt_size e
theorem Paired.mapP {α β:Type} {F G:α→β→Prop}:∀ {l₁:List α} {l₂:List β},Paired F l₁ l₂→(∀ a b,F a b→G a b)→Paired G l₁ l₂
  | _,_,.nil,_=>.nil
  | _,_,.cons r t,f=>.cons (f _ _ r) (Paired.mapP t f)
theorem ObjOk.stay (x:ObjOk P w H h a o) (k:∀ b u,(b=a∨H b=some (.own a))→h.get? b=some u→h'.get? b=some u)
    (ho:∀ b,H b=some (.own a)→H' b=some (.own a)) (ht:∀ b xs,H b=some (.tup xs)→H' b=some (.tup xs)):ObjOk P w H' h' a o:=by
  induction o with
  | lst xs=>obtain ⟨z,its,n,r,e⟩:=x; exact ⟨z,its,n,r,k _ _ (.inl rfl) e⟩
  | tup xs=>obtain ⟨z,its,r,ob,e,c⟩:=x; exact ⟨z,its,r,ob,k _ _ (.inl rfl) e,c⟩
  | dK kvs=>obtain ⟨z,y,vs,r,ob,es,ep,e,c⟩:=x; exact ⟨z,y,vs,r,ob,es,ep,k _ _ (.inl rfl) e,c⟩
  | dT kvs =>
    obtain ⟨z,y,xs,r,ob,es,ep,e,c⟩:=x
    exact ⟨z,y,xs,Paired.mapP r fun p q z=>⟨z.1,ht _ _ z.2.1,z.2.2⟩,ob,es,ep,k _ _ (.inl rfl) e,c⟩
  | set S n=>obtain ⟨ob,es,ep,t,e,c⟩:=x; exact ⟨ob,es,ep,t,k _ _ (.inl rfl) e,c⟩
  | ins C dx fs =>
    obtain ⟨d,z,ne,e,mA,⟨od,es,ep,e2,c⟩,r⟩:=x
    exact ⟨ho _ d,z,ne,k _ _ (.inl rfl) e,mA,⟨od,es,ep,k _ _ (.inr d) e2,c⟩,r⟩
  | own y=>obtain ⟨ob,e⟩:=x; exact ⟨ob,k _ _ (.inl rfl) e⟩
  | xd fs=>obtain ⟨mA,⟨od,es,ep,e,c⟩,r⟩:=x; exact ⟨mA,⟨od,es,ep,k _ _ (.inl rfl) e,c⟩,r⟩
  | rng lo hi=>obtain ⟨t,u,v,e⟩:=x; exact ⟨t,u,v,k _ _ (.inl rfl) e⟩
  | frz ob u ih=>obtain ⟨e,q⟩:=x; exact ⟨k _ _ (.inl rfl) e,ih q⟩
  | tbl ps =>
    have e:h.get? a=some {cls:=.none,data:=.fields ps}:=x
    show h'.get? a=some {cls:=.none,data:=.fields ps}
    exact k a _ (.inl rfl) e
  | met f y =>
    have e:h.get? a=some (PySem.W.methodObj (.ref f) (.ref y)):=x
    show h'.get? a=some (PySem.W.methodObj (.ref f) (.ref y))
    exact k a _ (.inl rfl) e
  | ext φ=>obtain ⟨p,⟨o,e⟩,st⟩:=x; exact ⟨st _ _ p fun o q=>k _ _ (.inl rfl) q,⟨o,k _ _ (.inl rfl) e⟩,st⟩
theorem HOk.lt (x:HOk P w H h) (e:H a=some o):a < h.objs.size:=(x a o e).lt
theorem HOk.fresh (x:HOk P w H h) (e:h.objs.size≤a):H a=none:=by
  cases q:H a with
  | none=>rfl
  | some u=>exact absurd (Nat.lt_of_lt_of_le (x.lt q) e) (Nat.lt_irrefl _)
theorem HOk.kept (x:HOk P w H h) (k:∀ b u,h.get? b=some u→h'.get? b=some u):HOk P w H h':=fun a o e =>
  (x a o e).stay (fun b u _ q=>k b u q) (fun _ q=>q) fun _ _ q=>q
theorem HOk.laid (x:HOk P w H h) (k:∀ b u,h.get? b=some u→h'.get? b=some u) (hp:h.objs.size≤a) (new:ObjOk P w (upd H a o) h' a o):HOk P w (upd H a o) h':=fun b u e=>by
  have hn:=x.fresh hp
  by_cases hb:b=a
  · subst hb; rw [yd] at e; cases e; exact new
  · rw [Zb hb] at e
    exact (x b u e).stay (fun c v _ q=>k c v q) (fun c q=>by rw [Zb (Yf q hn)]; exact q) fun c xs q=>by rw [Zb (Yf q hn)]; exact q
end
noncomputable def Rd (H:Hp) (a:Addr) (u:HO):Prop:=H a=some u∨∃ o,H a=some (.frz o u)
theorem Rd.of {H:Hp} {a:Addr} {u:HO} (h:H a=some u):Rd H a u:=.inl h
theorem Rd.ok {P:Program} {w:World} {H:Hp} {h:Heap} {a:Addr} {u:HO} (r:Rd H a u) (x:HOk P w H h):ObjOk P w H h a u:=by
  rcases r with r | ⟨o,r⟩
  · exact x a u r
  · obtain ⟨_,q⟩:=x a _ r
    exact q
noncomputable def Mut:Option HO→Prop
  | some (.lst _)=>True
  | some (.dK _)=>True
  | some (.dT _)=>True
  | some (.set _ _)=>True
  | some (.ins _ _ _)=>True
  | some (.ext _)=>True
  | _=>False
section
variable {P:Program} {w:World} {H:Hp} {h h':Heap} {x e:Addr} {o':HO}
theorem HOk.write (ok:HOk P w H h) (mu:Mut (H x)) (he:e=x∨H e=some (.own x)) (k:∀ b u,b≠e→h.get? b=some u→h'.get? b=some u) (heo:∃ u,h'.get? e=some u)
    (new:ObjOk P w (upd H x o') h' x o'):HOk P w (upd H x o') h':=fun b u q=>by
  have nown:∀ c y,H c=some (.own y)→c≠x:=fun c y r z=>by subst z; rw [r] at mu; exact mu
  have ntup:∀ c xs,H c=some (.tup xs)→c≠x:=fun c xs r z=>by subst z; rw [r] at mu; exact mu
  by_cases hb:b=x
  · subst hb; rw [yd] at q; cases q; exact new
  · rw [Zb hb] at q
    by_cases hbe:b=e
    · have q':H b=some (.own x):=by
        rcases he with z | z
        · exact absurd (hbe.trans z) hb
        · rw [hbe]; exact z
      rw [q] at q'; cases q'
      obtain ⟨v,hv⟩:=heo
      exact ⟨v,by rw [hbe]; exact hv⟩
    · refine (ok b u q).stay (fun c v hc r=>k c v ?_ r) (fun c r=>by rw [Zb (nown c b r)]; exact r) fun c xs r=>by rw [Zb (ntup c xs r)]; exact r
      rcases hc with rfl | hc
      · exact hbe
      · rintro rfl
        rcases he with z | z
        · exact nown c b hc z
        · rw [hc] at z; cases z; exact hb rfl
end
structure Un (fs ex:List Addr) (H H':Hp) (h h':Heap):Prop where
  keep:∀ b o,h.get? b=some o→H b=none→b∉fs→b∉ex→h'.get? b=some o
  slot:∀ b o,h.get? b=some o→H b=none→b∈fs→b∉ex→∃ sl,h'.get? b=some {o with slots:=sl}
  free:∀ b o,h.get? b=some o→H b=none→b∉ex→H' b=none
  there:∀ b o,h.get? b=some o→b∉ex→∃ o',h'.get? b=some o'
  tups:∀ b xs,H b=some (.tup xs)→H' b=some (.tup xs)
  frzs:∀ b o u,H b=some (.frz o u)→H' b=some (.frz o u)
  tbls:∀ b ps,H b=some (.tbl ps)→∃ more,H' b=some (.tbl (ps++more))
section
variable {fs fs' ex ex':List Addr} {H H1 H2:Hp} {h h1 h2 h':Heap} {a x e:Addr} {o:HO}
theorem Un.any (u:Un fs ex H H1 h h1) {b:Addr} {ob:Obj} (q:h.get? b=some ob) (n:H b=none) (hx:b∉ex):∃ sl,h1.get? b=some {ob with slots:=sl}:=by
  by_cases hb:b∈fs
  · exact u.slot b ob q n hb hx
  · exact ⟨ob.slots,u.keep b ob q n hb hx⟩
theorem Un.kept (k:∀ b u,h.get? b=some u→h'.get? b=some u):Un fs ex H H h h' :=
  ⟨fun b ob q _ _ _=>k b ob q,fun b ob q _ _ _=>⟨ob.slots,k b ob q⟩,fun _ _ _ n _=>n,fun b ob q _=>⟨ob,k b ob q⟩,fun _ _ q=>q,fun _ _ _ q=>q,fun _ ps q=>⟨#[],by rw [q]; simp⟩⟩
theorem Un.refl:Un fs ex H H h h:=Un.kept fun _ _ q=>q
theorem Un.laid (k:∀ b u,h.get? b=some u→h'.get? b=some u) (hp:h.objs.size≤a) (hn:H a=none):Un fs ex H (upd H a o) h h' where
  keep:=fun b u q _ _ _=>k b u q
  slot:=fun b u q _ _ _=>⟨u.slots,k b u q⟩
  free:=fun b u q n _=>by rw [Zb (Nat.ne_of_lt (Nat.lt_of_lt_of_le (Heap.lt_size q) hp))]; exact n
  there:=fun b u q _=>⟨u,k b u q⟩
  tups:=fun b xs q=>by rw [Zb (Yf q hn)]; exact q
  frzs:=fun b u xs q=>by rw [Zb (Yf q hn)]; exact q
  tbls:=fun b ps q=>⟨#[],by rw [Zb (Yf q hn),q]; simp⟩
theorem Un.write (mu:Mut (H x)) (he:e=x∨H e=some (.own x)) (k:∀ b u,b≠e→h.get? b=some u→h'.get? b=some u) (heo:∃ u,h'.get? e=some u):Un fs ex H (upd H x o) h h':=by
  have hx:∀ b,H b=none→b≠x:=fun b n z=>by subst z; rw [n] at mu; exact mu
  have hb:∀ b,H b=none→b≠e:=fun b n z=>by
    subst z
    rcases he with r | r
    · exact hx b n r
    · rw [n] at r; cases r
  have hm:∀ b u,H b=some u→¬ Mut (some u)→b≠x:=fun b u q nm z=>by subst z; rw [q] at mu; exact nm mu
  refine ⟨fun b u q n _ _=>k b u (hb b n) q,fun b u q n _ _=>⟨u.slots,k b u (hb b n) q⟩,fun b u q n _=>by rw [Zb (hx b n)]; exact n,fun b u q _=>?_,
    fun b xs q=>by rw [Zb (hm b _ q fun z=>z)]; exact q,fun b u xs q=>by rw [Zb (hm b _ q fun z=>z)]; exact q,fun b ps q=>⟨#[],by rw [Zb (hm b _ q fun z=>z),q]; simp⟩⟩
  by_cases hbe:b=e
  · subst hbe; exact heo
  · exact ⟨u,k b u hbe q⟩
end
noncomputable def trk (h:Heap) (H:Hp):List Addr:=(List.range h.objs.size).filter fun a=>(H a).isSome
noncomputable def Yao (h:Heap) (H:Hp):Heap:=PySem.W.hideAll h (trk h H)
theorem qbf (h:Heap) (H:Hp):(Yao h H).objs.size=h.objs.size:=PySem.W.hideAll_size _ _
theorem qbt {h:Heap} {H:Hp} {b:Addr} {o:Obj} (e:h.get? b=some o) (n:H b=none):(Yao h H).get? b=some o :=
  PySem.W.hideAll_get _ e fun hm=>by
    have q:(H b).isSome=true:=(List.mem_filter.mp hm).2
    rw [n] at q; simp at q
theorem ZbF {h:Heap} {H:Hp} {b:Addr} {o:Obj} (e:(Yao h H).get? b=some o):h.get? b=some o∧H b=none:=by
  have e':h.get? b=some o:=PySem.W.of_hideAll (trk h H) e
  refine ⟨e',?_⟩
  cases q:H b with
  | none=>rfl
  | some x =>
    have hm:b∈trk h H:=List.mem_filter.mpr ⟨List.mem_range.mpr (Heap.lt_size e'),by simp [q]⟩
    have z:(Yao h H).get? b=none:=PySem.W.hideAll_none (trk h H) hm
    rw [z] at e; cases e
structure Mod (K:PySem.W.Frag) (mg:Str→Option Value) (base:Heap):Prop where
  kin:K.In base
  glob:base.Ns mainGlobals mg
  blt:∃ mb,base.Ns builtinsNs mb∧∀ x:Str,x≠"__name__"→mb x=bootBuiltins x
  nolimit:base.NoLimit
structure Cx where
  prog:Program
  w:World
  K:PySem.W.Frag
  mg:Str→Option Value
  base:Heap
  A:Around
  N:List Str
  s₀:Shared
  H₀:Hp
  env:Env
  outer:List Env
  stack:List Env
  ex:List Addr
  fn:Str→Bool
  calm:Bool
  pn:List (Addr×Obj)
  xe:Value→Shared→Prop
noncomputable def frs (l:List Env):List Addr:=l.filterMap (·.frame)
noncomputable abbrev Cx.fs (X:Cx):List Addr:=frs X.outer
noncomputable def Vis (sc:Scope) (x:Str):Prop:=sc.names.lookup x=some .local∨sc.names.lookup x=some .cell∨sc.names.lookup x=some .free
noncomputable def Loc (sc:Scope) (x:Str):Prop:=sc.names.lookup x=some .local∨sc.names.lookup x=some .cell
noncomputable def Look (env:Env) (h:Heap) (m:Str→Option Value) (x:Str) (u:Value):Prop :=
  (env.kindOf x=some .local∧m x=some u)∨((env.kindOf x=some .cell∨env.kindOf x=some .free)∧∃ c,env.cells.lookup x=some c∧h.IsCell c (some u))
structure Cx.Ok (X:Cx):Prop where
  mod:Mod X.K X.mg X.base
  kind:X.env.scope.kind=.function
  glob:X.env.globals=mainGlobals
  blt:X.env.builtins=builtinsNs
  above:X.s₀.heap.objs.size≤X.env.locals
  inj:∀ x y c,X.env.cells.lookup x=some c→X.env.cells.lookup y=some c→x=y
  has:∀ x,(X.env.kindOf x=some .cell∨X.env.kindOf x=some .free)→∃ c,X.env.cells.lookup x=some c
  cab:∀ x c,X.fn x=true→X.env.cells.lookup x=some c→X.s₀.heap.objs.size≤c
  hd:X.calm=true→X.A.handled=none
  frames:X.A.frames=some X.stack
  stk:X.stack=X.outer∨(X.stack=X.env::X.outer∧X.env.frame=some X.env.locals)
  exf:∀ b∈X.ex,b≠X.env.locals∧∀ x c,X.env.cells.lookup x=some c→c≠b
  bs:∀ b o,X.base.get? b=some o→X.s₀.heap.get? b=some o∧X.H₀ b=none
  bsz:X.base.objs.size≤X.s₀.heap.objs.size
  noex:∀ b o,X.base.get? b=some o→b∉X.ex
  exfs:∀ b∈X.ex,b∉X.fs
  funs:X.s₀.heap.FunFrames X.base X.outer
  frf:∀ b∈X.fs,X.H₀ b=none
structure Inv (X:Cx) (pins:List (Addr×Obj)) (σ:List (Option V)) (H:Hp) (s:Shared):Prop where
  ok:X.Ok
  os:s.os=X.s₀.os
  bare:AllBare s.gens
  base:Un X.fs X.ex X.H₀ H X.s₀.heap s.heap
  loc:∃ m,s.heap.Ns X.env.locals m∧∀ (i:Nat) (x:Str) (v:V),X.N[i]?=some x→σ[i]?=some (some v)→Vis X.env.scope x→∃ u,RelV v u∧Look X.env s.heap m x u
  cell:∀ x c,X.env.cells.lookup x=some c→∃ v,s.heap.IsCell c v
  free:H X.env.locals=none
  freeC:∀ x c,X.env.cells.lookup x=some c→H c=none
  pin:∀ p∈X.pn++pins,s.heap.get? p.1=some p.2∧H p.1=none∧p.1≠X.env.locals∧p.1∉X.fs∧∀ v,p.2.data≠.cell v
  hok:HOk X.prog X.w H s.heap
  len:σ.length=X.N.length
section
variable {X:Cx} {pins:List (Addr×Obj)} {σ:List (Option V)} {H H':Hp} {s:Shared} {h':Heap}
theorem Cx.Ok.nofr (ok:X.Ok) {b:Addr} {o:Obj} (e:X.base.get? b=some o):b∉X.fs:=fun hb=>by
  have:=(ok.funs.mem hb).1
  rw [e] at this; cases this
theorem Inv.bs (I:Inv X pins σ H s):∀ b o,X.base.get? b=some o→s.heap.get? b=some o∧H b=none:=fun b o e =>
  ⟨I.base.keep b o (I.ok.bs b o e).1 (I.ok.bs b o e).2 (I.ok.nofr e) (I.ok.noex b o e),I.base.free b o (I.ok.bs b o e).1 (I.ok.bs b o e).2 (I.ok.noex b o e)⟩
theorem Inv.bk (I:Inv X pins σ H s):∀ b o,X.base.get? b=some o→s.heap.get? b=some o:=fun b o e=>(I.bs b o e).1
theorem Inv.mod (I:Inv X pins σ H s):Mod X.K X.mg X.base:=I.ok.mod
theorem Inv.kIn (I:Inv X pins σ H s):X.K.In s.heap:=I.ok.mod.kin.keeps I.bk
theorem Inv.nolimit (I:Inv X pins σ H s):s.heap.NoLimit:=I.ok.mod.nolimit.keeps I.bk
theorem Inv.lt (I:Inv X pins σ H s):X.env.locals < s.heap.objs.size:=let ⟨_,hn,_⟩:=I.loc; hn.lt
theorem Inv.sz (I:Inv X pins σ H s):X.s₀.heap.objs.size≤s.heap.objs.size:=Nat.le_trans I.ok.above (Nat.le_of_lt I.lt)
theorem Inv.nofs (I:Inv X pins σ H s) {a:Addr} (h:s.heap.objs.size≤a):a∉X.fs:=fun hb=>by
  obtain ⟨_,o,ho,_⟩:=I.ok.funs.mem hb
  exact absurd (Nat.lt_of_lt_of_le (Heap.lt_size ho) (Nat.le_trans I.sz h)) (Nat.lt_irrefl _)
theorem Inv.cne (I:Inv X pins σ H s):∀ x c,X.env.cells.lookup x=some c→c≠X.env.locals:=fun x c e z=>by
  obtain ⟨v,o,ho,hd⟩:=I.cell x c e
  obtain ⟨m,⟨o',es,ep,ho',hd',_⟩,_⟩:=I.loc
  rw [z,ho'] at ho; cases ho; rw [hd'] at hd; cases hd
theorem Inv.funs (I:Inv X pins σ H s):s.heap.FunFrames X.base X.outer:=by
  have all:∀ (l:List Env),(∀ b∈frs l,b∈X.fs)→X.s₀.heap.FunFrames X.base l→s.heap.FunFrames X.base l:=by
    intro l
    induction l with
    | nil=>intro _ _; trivial
    | cons env r ih =>
      intro hs hl
      obtain ⟨hk,⟨L,o,hf,hn,ho,hd⟩,hr⟩:=hl
      have hL:L∈X.fs:=hs L (by unfold frs; rw [List.filterMap_cons,hf]; exact List.mem_cons_self)
      obtain ⟨sl,e⟩:=I.base.slot L o ho (I.ok.frf L hL) hL fun z=>I.ok.exfs L z hL
      exact ⟨hk,⟨L,_,hf,hn,e,hd⟩,ih (fun b hb=>hs b (by unfold frs; rw [List.filterMap_cons,hf]; exact List.mem_cons_of_mem _ hb)) hr⟩
  exact all X.outer (fun _ hb=>hb) I.ok.funs
theorem Inv.stack (I:Inv X pins σ H s):s.heap.FunFrames X.base X.stack:=by
  rcases I.ok.stk with e | ⟨e,hf⟩
  · rw [e]; exact I.funs
  · rw [e]
    obtain ⟨m,hn,_⟩:=I.loc
    refine .cons (by rw [I.ok.kind]; decide) hf hn ?_ I.funs
    exact Heap.get?_none_of_le (Nat.le_trans I.ok.bsz I.ok.above)
theorem Inv.stkSub (I:Inv X pins σ H s):∀ b∈frs X.stack,b∈X.env.locals::X.fs:=fun b hb=>by
  rcases I.ok.stk with e | ⟨e,hf⟩
  · rw [e] at hb; exact List.mem_cons_of_mem _ hb
  · rw [e] at hb
    unfold frs at hb
    rw [List.filterMap_cons,hf] at hb
    exact hb
theorem Inv.stkFree (I:Inv X pins σ H s):∀ b∈frs X.stack,H b=none:=fun b hb=>by
  rcases List.mem_cons.mp (I.stkSub b hb) with e | hb
  · rw [e]; exact I.free
  · obtain ⟨_,o,ho,_⟩:=I.ok.funs.mem hb
    exact I.base.free b o ho (I.ok.frf b hb) fun z=>I.ok.exfs b z hb
theorem Inv.step {g':Array GenState} {t':Nat} {d':Drawn} {ch:List Addr} (I:Inv X pins σ H s)
    (hch:∀ b∈ch,(b∈X.ex∨X.s₀.heap.objs.size≤b)∧b≠X.env.locals∧(∀ x c,X.env.cells.lookup x=some c→c≠b)∧∀ p∈X.pn++pins,p.1≠b)
    (keep:∀ b o,b≠X.env.locals→b∉X.fs→b∉ch→s.heap.get? b=some o→H b=none→h'.get? b=some o)
    (slot:∀ b o,b≠X.env.locals→b∈X.fs→b∉ch→s.heap.get? b=some o→H b=none→∃ sl,h'.get? b=some {o with slots:=sl}) (free:∀ b o,b∉ch→s.heap.get? b=some o→H b=none→H' b=none)
    (there:∀ b o,b∉ch→s.heap.get? b=some o→∃ o',h'.get? b=some o')
    (tups:∀ b xs,H b=some (.tup xs)→H' b=some (.tup xs)) (frzs:∀ b o u,H b=some (.frz o u)→H' b=some (.frz o u)) (tbls:∀ b ps,H b=some (.tbl ps)→∃ more,H' b=some (.tbl (ps++more)))
    (ns:∀ m,s.heap.Ns X.env.locals m→h'.Ns X.env.locals m) (hok:HOk X.prog X.w H' h') (hg:AllBare g') :
    Inv X pins σ H' {s with heap:=h',gens:=g',drawn:=d',toks:=t'}:=by
  have neL:∀ b o,X.s₀.heap.get? b=some o→b≠X.env.locals:=fun b o e=>Nat.ne_of_lt (Nat.lt_of_lt_of_le (Heap.lt_size e) I.ok.above)
  have neC:∀ b o,X.s₀.heap.get? b=some o→b∉X.ex→b∉ch:=fun b o e hx hb=>by
    rcases (hch b hb).1 with z | z
    · exact hx z
    · exact absurd (Nat.lt_of_lt_of_le (Heap.lt_size e) z) (Nat.lt_irrefl _)
  have cellK:∀ x c,X.env.cells.lookup x=some c→∀ v,s.heap.IsCell c v→h'.IsCell c v:=fun x c e v ⟨o,ho,hd⟩=>by
    have nch:c∉ch:=fun z=>(hch c z).2.2.1 x c e rfl
    by_cases hc:c∈X.fs
    · obtain ⟨sl,q⟩:=slot c o (I.cne x c e) hc nch ho (I.freeC x c e)
      exact ⟨_,q,hd⟩
    · exact ⟨o,keep c o (I.cne x c e) hc nch ho (I.freeC x c e),hd⟩
  refine ⟨I.ok,I.os,hg,⟨fun b o e n hb hx=>?_,fun b o e n hb hx=>?_,fun b o e n hx=>?_,fun b o e hx=>?_,fun b xs e=>tups b xs (I.base.tups b xs e),fun b o xs e=>frzs b o xs (I.base.frzs b o xs e),fun b ps e=>?_⟩,?_,fun x c e=>?_,?_,fun x c e=>?_,fun p hp=>?_,hok,I.len⟩
  · exact keep b o (neL b o e) hb (neC b o e hx) (I.base.keep b o e n hb hx) (I.base.free b o e n hx)
  · obtain ⟨sl,e1⟩:=I.base.slot b o e n hb hx
    obtain ⟨sl',e2⟩:=slot b _ (neL b o e) hb (neC b o e hx) e1 (I.base.free b o e n hx)
    exact ⟨sl',e2⟩
  · obtain ⟨o',e1⟩:=I.base.there b o e hx
    exact free b o' (neC b o e hx) e1 (I.base.free b o e n hx)
  · obtain ⟨o',e1⟩:=I.base.there b o e hx
    exact there b o' (neC b o e hx) e1
  · obtain ⟨m1,e1⟩:=I.base.tbls b ps e
    obtain ⟨m2,e2⟩:=tbls b _ e1
    exact ⟨m1++m2,by rw [e2,Array.append_assoc]⟩
  · obtain ⟨m,hn,hl⟩:=I.loc
    refine ⟨m,ns m hn,fun i x v e1 e2 e3=>?_⟩
    obtain ⟨u,r,l⟩:=hl i x v e1 e2 e3
    refine ⟨u,r,?_⟩
    rcases l with l | ⟨k,c,e,z⟩
    · exact .inl l
    · exact .inr ⟨k,c,e,cellK x c e _ z⟩
  · obtain ⟨v,z⟩:=I.cell x c e
    exact ⟨v,cellK x c e v z⟩
  · obtain ⟨m,⟨o,_,_,ho,_⟩,_⟩:=I.loc
    exact free _ o (fun z=>(hch _ z).2.1 rfl) ho I.free
  · obtain ⟨v,o,ho,hd⟩:=I.cell x c e
    exact free c o (fun z=>(hch c z).2.2.1 x c e rfl) ho (I.freeC x c e)
  · obtain ⟨e,n,ne,nf,d⟩:=I.pin p hp
    have nch:p.1∉ch:=fun z=>(hch p.1 z).2.2.2 p hp rfl
    exact ⟨keep p.1 p.2 ne nf nch e n,free p.1 p.2 nch e n,ne,nf,d⟩
theorem Inv.un {t':Nat} (I:Inv X pins σ H s) (u:Un X.fs [] H H' s.heap h') (hok:HOk X.prog X.w H' h'):Inv X pins σ H' {s with heap:=h',toks:=t'}:=by
  obtain ⟨m,⟨o,es,ep,ho,r⟩,_⟩:=id I.loc
  obtain ⟨sl,hL⟩:=u.any ho I.free (by simp)
  exact I.step (g':=s.gens) (d':=s.drawn) (ch:=[]) (fun _ z=>nomatch z) (fun b o _ hb _ e n=>u.keep b o e n hb (by simp)) (fun b o _ hb _ e n=>u.slot b o e n hb (by simp)) (fun b o _ e n=>u.free b o e n (by simp)) (fun b o _ e=>u.there b o e (by simp)) u.tups u.frzs u.tbls (fun m' hm=>by
    obtain ⟨o',es',ep',ho',r'⟩:=hm
    rw [ho] at ho'; cases ho'
    exact ⟨_,es',ep',hL,r'⟩) hok I.bare
theorem Inv.call {g':Array GenState} {t':Nat} {d':Drawn} {ch:List Addr} (I:Inv X pins σ H s) (u:Un (frs X.stack) ch H H' s.heap h') (hok:HOk X.prog X.w H' h') (hg:AllBare g')
    (hch:∀ b∈ch,(b∈X.ex∨X.s₀.heap.objs.size≤b)∧b≠X.env.locals∧(∀ x c,X.env.cells.lookup x=some c→c≠b)∧∀ p∈X.pn++pins,p.1≠b) :
    Inv X pins σ H' {s with heap:=h',gens:=g',drawn:=d',toks:=t'}:=by
  obtain ⟨m,⟨o,es,ep,ho,r⟩,_⟩:=id I.loc
  obtain ⟨sl,hL⟩:=u.any ho I.free fun z=>(hch _ z).2.1 rfl
  exact I.step (ch:=ch) hch (fun b o hL hb hc e n=>u.keep b o e n (fun z=>(List.mem_cons.mp (I.stkSub b z)).elim hL hb) hc) (fun b o _ _ hc e n=>u.any e n hc) (fun b o hc e n=>u.free b o e n hc) (fun b o hc e=>u.there b o e hc) u.tups u.frzs u.tbls (fun m' hm=>by
    obtain ⟨o',es',ep',ho',r'⟩:=hm
    rw [ho] at ho'; cases ho'
    exact ⟨_,es',ep',hL,r'⟩) hok hg
theorem Inv.turned {t':Nat} {it:Addr} (I:Inv X pins σ H s) (k:∀ b o,b≠it→s.heap.get? b=some o→h'.get? b=some o) (hn:H it=none) (hL:it≠X.env.locals)
    (h1:it∈X.ex∨X.s₀.heap.objs.size≤it) (h2:∀ x c,X.env.cells.lookup x=some c→c≠it) (h3:∀ p∈X.pn++pins,p.1≠it):Inv X pins σ H {s with heap:=h',toks:=t'}:=by
  have nit:∀ b u,H b=some u→b≠it:=fun b u e z=>by rw [z,hn] at e; cases e
  refine I.step (g':=s.gens) (d':=s.drawn) (ch:=[it]) (fun b hb=>?_) (fun b o _ _ hc e _=>k b o (fun z=>hc (by simp [z])) e) (fun b o _ _ hc e _=>⟨o.slots,k b o (fun z=>hc (by simp [z])) e⟩) (fun _ _ _ _ n=>n)
    (fun b o hc e=>⟨o,k b o (fun z=>hc (by simp [z])) e⟩) (fun _ _ e=>e) (fun _ _ _ e=>e) (fun b ps e=>⟨#[],by rw [e]; simp⟩) (fun m hm=>?_) (fun b u e=>?_) I.bare
  · have e:b=it:=by simpa using hb
    subst e
    exact ⟨h1,hL,h2,h3⟩
  · obtain ⟨o,es,ep,ho,r⟩:=hm
    exact ⟨o,es,ep,k _ o (Ne.symm hL) ho,r⟩
  · refine (I.hok b u e).stay (fun c v hc q=>k c v ?_ q) (fun _ q=>q) fun _ _ q=>q
    rcases hc with z | z
    · rw [z]; exact nit b u e
    · exact nit c _ z
theorem Inv.tok (I:Inv X pins σ H s) (t:Nat):Inv X pins σ H {s with toks:=t}:=I.un (h':=s.heap) (t':=t) Un.refl I.hok
theorem Inv.kept {t':Nat} (I:Inv X pins σ H s) (k:∀ b u,s.heap.get? b=some u→h'.get? b=some u):Inv X pins σ H {s with heap:=h',toks:=t'}:=I.un (Un.kept k) (I.hok.kept k)
theorem Inv.laid {a:Addr} {o:HO} {t':Nat} (I:Inv X pins σ H s) (k:∀ b u,s.heap.get? b=some u→h'.get? b=some u) (hp:s.heap.objs.size≤a) (new:ObjOk X.prog X.w (upd H a o) h' a o) :
    Inv X pins σ (upd H a o) {s with heap:=h',toks:=t'}:=I.un (Un.laid k hp (I.hok.fresh hp)) (I.hok.laid k hp new)
theorem Inv.write {x e:Addr} {o:HO} {t':Nat} (I:Inv X pins σ H s) (mu:Mut (H x)) (he:e=x∨H e=some (.own x)) (k:∀ b u,b≠e→s.heap.get? b=some u→h'.get? b=some u) (heo:∃ u,h'.get? e=some u)
    (new:ObjOk X.prog X.w (upd H x o) h' x o):Inv X pins σ (upd H x o) {s with heap:=h',toks:=t'}:=I.un (Un.write mu he k heo) (I.hok.write mu he k heo new)
theorem Inv.pins_of {pins':List (Addr×Obj)} (I:Inv X pins σ H s) (h:∀ p∈pins',s.heap.get? p.1=some p.2∧H p.1=none∧p.1≠X.env.locals∧p.1∉X.fs∧∀ v,p.2.data≠.cell v):Inv X pins' σ H s :=
  ⟨I.ok,I.os,I.bare,I.base,I.loc,I.cell,I.free,I.freeC,fun p hp=>(List.mem_append.mp hp).elim (fun z=>I.pin p (List.mem_append_left _ z)) (h p),I.hok,I.len⟩
theorem ZaN {N:List Str} (hN:N.Nodup) {i j:Nat} {x:Str} (a:N[i]?=some x) (b:N[j]?=some x):i=j:=by
  obtain ⟨h1,e1⟩:=List.getElem?_eq_some_iff.mp a
  obtain ⟨h2,e2⟩:=List.getElem?_eq_some_iff.mp b
  exact (List.getElem_inj hN).mp (e1.trans e2.symm)
theorem qa8 {M:Model} {A:Around} {E:Value→Shared→Prop} {i:Nat} {x:Str} {v:V} {u:Value} {Q:Unit→Shared→Prop} (I:Inv X pins σ H s) (hN:X.N.Nodup) (hi:X.N[i]?=some x) (hx:Loc X.env.scope x) (r:RelV v u)
    (h:∀ s',Inv X pins (σ.set i (some v)) H s'→(∃ a,Heap.SameBut a s.heap s'.heap∧(a=X.env.locals∨X.env.cells.lookup x=some a))→Q () s') (hf:X.fn x=true∨X.env.scope.names.lookup x=some .local:=by first | exact .inl rfl | exact .inr rfl | assumption):wpAny M A (storeName X.env x u) Q E s:=by
  obtain ⟨m,hn,hl⟩:=id I.loc
  have hcls:(X.env.scope.kind == .class || (X.env.scope.kind == .module&&X.env.locals != X.env.globals))=false:=by rw [I.ok.kind]; rfl
  have hiσ:i < σ.length:=by rw [I.len]; exact (List.getElem?_eq_some_iff.mp hi).1
  have cne:=I.cne
  have tracked:∀ {a:Addr} {h':Heap},(∃ o,s.heap.get? a=some o∧H a=none)→Heap.SameBut a s.heap h'→HOk X.prog X.w H h':=fun {a h'} ha hs b ob e=>by
    obtain ⟨_,_,hfree⟩:=ha
    refine (I.hok b ob e).stay (fun c w' hc q=>(hs.2 c ?_).trans q) (fun _ q=>q) fun _ _ q=>q
    rintro rfl
    rcases hc with rfl | hc
    · rw [hfree] at e; cases e
    · rw [hfree] at hc; cases hc
  rcases hx with hk | hk
  · refine wpAny_storeName_local hk hn (fun h' hn' hs=>?_) hcls
    obtain ⟨oL,_,_,hoL,_⟩:=id hn
    refine h _ ⟨I.ok,I.os,I.bare,⟨fun b o e n hb hx=>?_,fun b o e n hb hx=>?_,I.base.free,fun b o e hx=>?_,I.base.tups,I.base.frzs,I.base.tbls⟩,⟨_,hn',fun j y v' e1 e2 e3=>?_⟩,fun y c e=>?_,I.free,I.freeC,fun p hp=>?_,tracked ⟨oL,hoL,I.free⟩ hs,by simpa using I.len⟩ ⟨_,hs,.inl rfl⟩
    · exact (hs.2 b (Nat.ne_of_lt (Nat.lt_of_lt_of_le (Heap.lt_size e) I.ok.above))).trans (I.base.keep b o e n hb hx)
    · obtain ⟨sl,e1⟩:=I.base.slot b o e n hb hx
      exact ⟨sl,(hs.2 b (Nat.ne_of_lt (Nat.lt_of_lt_of_le (Heap.lt_size e) I.ok.above))).trans e1⟩
    · obtain ⟨o',e1⟩:=I.base.there b o e hx
      exact ⟨o',(hs.2 b (Nat.ne_of_lt (Nat.lt_of_lt_of_le (Heap.lt_size e) I.ok.above))).trans e1⟩
    · by_cases hj:j=i
      · subst hj
        rw [hi] at e1; cases e1
        rw [List.getElem?_set_self hiσ] at e2
        cases e2
        exact ⟨u,r,.inl ⟨hk,by simp⟩⟩
      · rw [List.getElem?_set_ne (Ne.symm hj)] at e2
        obtain ⟨u',r',q⟩:=hl j y v' e1 e2 e3
        refine ⟨u',r',?_⟩
        rcases q with ⟨k,e⟩ | ⟨k,c,e,z⟩
        · refine .inl ⟨k,?_⟩
          have:y≠x:=fun e=>hj (ZaN hN e1 (e ▸ hi))
          simp [this,e]
        · exact .inr ⟨k,c,e,z.sameBut hs (cne y c e)⟩
    · obtain ⟨w',z⟩:=I.cell y c e
      exact ⟨w',z.sameBut hs (cne y c e)⟩
    · obtain ⟨e,n,ne,nf,d⟩:=I.pin p hp
      exact ⟨(hs.2 p.1 ne).trans e,n,ne,nf,d⟩
  · have hfn:X.fn x=true:=by
      rcases hf with z | z
      · exact z
      · rw [z] at hk; cases hk
    obtain ⟨c,hc⟩:=I.ok.has x (.inl hk)
    obtain ⟨w',z⟩:=I.cell x c hc
    refine wpAny_storeName_cell I.ok.kind hk hc z (fun h' hc' hs=>?_)
    obtain ⟨oc,hoc,hocd⟩:=id z
    refine h {s with heap:=h'} ⟨I.ok,I.os,I.bare,⟨fun b o e n hb hx=>?_,fun b o e n hb hx=>?_,I.base.free,fun b o e hx=>?_,I.base.tups,I.base.frzs,I.base.tbls⟩,⟨m,hn.sameBut hs (Ne.symm (cne x c hc)),fun j y v' e1 e2 e3=>?_⟩,fun y c' e=>?_,I.free,I.freeC,fun p hp=>?_,tracked ⟨oc,hoc,I.freeC x c hc⟩ hs,by simpa using I.len⟩ ⟨c,hs,.inr hc⟩
    · exact (hs.2 b (Nat.ne_of_lt (Nat.lt_of_lt_of_le (Heap.lt_size e) (I.ok.cab x c hfn hc)))).trans (I.base.keep b o e n hb hx)
    · obtain ⟨sl,e1⟩:=I.base.slot b o e n hb hx
      exact ⟨sl,(hs.2 b (Nat.ne_of_lt (Nat.lt_of_lt_of_le (Heap.lt_size e) (I.ok.cab x c hfn hc)))).trans e1⟩
    · obtain ⟨o',e1⟩:=I.base.there b o e hx
      exact ⟨o',(hs.2 b (Nat.ne_of_lt (Nat.lt_of_lt_of_le (Heap.lt_size e) (I.ok.cab x c hfn hc)))).trans e1⟩
    · by_cases hj:j=i
      · subst hj
        rw [hi] at e1; cases e1
        rw [List.getElem?_set_self hiσ] at e2
        cases e2
        exact ⟨u,r,.inr ⟨.inl hk,c,hc,hc'⟩⟩
      · rw [List.getElem?_set_ne (Ne.symm hj)] at e2
        obtain ⟨u',r',q⟩:=hl j y v' e1 e2 e3
        refine ⟨u',r',?_⟩
        rcases q with q | ⟨k,c',e,z'⟩
        · exact .inl q
        · refine .inr ⟨k,c',e,z'.sameBut hs ?_⟩
          rintro rfl
          exact hj (ZaN hN e1 (I.ok.inj _ _ _ e hc ▸ hi))
    · by_cases hcc:c'=c
      · subst hcc; exact ⟨_,hc'⟩
      · obtain ⟨w2,z2⟩:=I.cell y c' e
        exact ⟨w2,z2.sameBut hs hcc⟩
    · obtain ⟨e,n,ne,nf,d⟩:=I.pin p hp
      refine ⟨(hs.2 p.1 ?_).trans e,n,ne,nf,d⟩
      intro q
      rw [q,hoc] at e
      have q':oc=p.2:=Option.some.inj e
      exact d w' (by rw [← q']; exact hocd)
theorem zbu {M:Model} {A:Around} {E:Value→Shared→Prop} {i:Nat} {x:Str} {v:V} {u:Value} {Q:Unit→Shared→Prop} (I:Inv X pins σ H s) (hN:X.N.Nodup) (hi:X.N[i]?=some x) (hx:Loc X.env.scope x) (r:RelV v u)
    (h:∀ s',Inv X pins (σ.set i (some v)) H s'→Q () s') (hf:X.fn x=true∨X.env.scope.names.lookup x=some .local:=by first | exact .inl rfl | exact .inr rfl | assumption):wpAny M A (storeName X.env x u) Q E s :=
  qa8 I hN hi hx r (fun s' I' _=>h s' I') hf
theorem Inv.call' {s':Shared} {ch:List Addr} (I:Inv X pins σ H s) (ho:s'.os=s.os) (u:Un (frs X.stack) ch H H' s.heap s'.heap) (hok:HOk X.prog X.w H' s'.heap) (hg:AllBare s'.gens)
    (hch:∀ b∈ch,(b∈X.ex∨X.s₀.heap.objs.size≤b)∧b≠X.env.locals∧(∀ x c,X.env.cells.lookup x=some c→c≠b)∧∀ p∈X.pn++pins,p.1≠b):Inv X pins σ H' s':=by
  obtain ⟨h',g',d',t',o'⟩:=s'
  have e:o'=s.os:=ho
  subst e
  exact I.call (g':=g') (t':=t') (d':=d') u hok hg hch
end
noncomputable abbrev XK:=Value→Option Addr→Hp→Prop
noncomputable abbrev St:=List (Option V)
noncomputable abbrev VK:=V→Hp→Prop
noncomputable abbrev TE:=St→Hp→VK→Prop
noncomputable abbrev TT:=St→Hp→(Bool→Hp→Prop)→Prop
noncomputable abbrev TA:=St→Hp→(List V→Hp→Prop)→Prop
structure Ends where
  nx:St→Hp→Prop
  rt:VK
  bk:St→Hp→Prop:=fun _ _=>False
  ct:St→Hp→Prop:=fun _ _=>False
noncomputable abbrev TS:=Ends→St→Hp→Prop
noncomputable def EP (X:Cx) (pins:List (Addr×Obj)) (σ:St) (Q:VK) (u:Value) (s':Shared):Prop:=∃ v H',Inv X pins σ H' s'∧RelV v u∧Q v H'
noncomputable def TP (X:Cx) (pins:List (Addr×Obj)) (σ:St) (Q:Bool→Hp→Prop) (b:Bool) (s':Shared):Prop:=∃ H',Inv X pins σ H' s'∧Q b H'
noncomputable def AP (X:Cx) (pins:List (Addr×Obj)) (σ:St) (Q:List V→Hp→Prop) (us:List Value) (s':Shared):Prop:=∃ vs H',Inv X pins σ H' s'∧Vals vs us∧Q vs H'
noncomputable def SP (X:Cx) (pins:List (Addr×Obj)) (D:Ends) (f:Flow) (s':Shared):Prop :=
  match f with
  | .next=>∃ σ' H',Inv X pins σ' H' s'∧D.nx σ' H'
  | .brk=>∃ σ' H',Inv X pins σ' H' s'∧D.bk σ' H'
  | .cont=>∃ σ' H',Inv X pins σ' H' s'∧D.ct σ' H'
  | .ret u=>∃ v σ' H',Inv X pins σ' H' s'∧RelV v u∧D.rt v H'
noncomputable def PE (X:Cx) (e:Expr) (t:TE):Prop :=
  ∀ (pins:List (Addr×Obj)) (s:Shared) (σ:St) (H:Hp) (Q:VK),Inv X pins σ H s→t σ H Q→wpAny (model X.prog X.w) X.A (eval e X.env) (EP X pins σ Q) X.xe s
noncomputable def PT (X:Cx) (e:Expr) (t:TT):Prop :=
  ∀ (pins:List (Addr×Obj)) (s:Shared) (σ:St) (H:Hp) (Q:Bool→Hp→Prop),Inv X pins σ H s→t σ H Q→wpAny (model X.prog X.w) X.A (isTrue e X.env (eval e X.env)) (TP X pins σ Q) X.xe s
noncomputable def PW (X:Cx) (e:Expr) (t:TT):Prop :=
  ∀ (whole:Sem Value) (pins:List (Addr×Obj)) (s:Shared) (σ:St) (H:Hp) (Q:Bool→Hp→Prop),Inv X pins σ H s→t σ H Q→wpAny (model X.prog X.w) X.A (isTrue e X.env whole) (TP X pins σ Q) X.xe s
theorem PW.pt {X:Cx} {e:Expr} {t:TT} (h:PW X e t):PT X e t:=h _
noncomputable def PA (X:Cx) (es:List Expr) (t:TA):Prop :=
  ∀ (pos:Pos) (pins:List (Addr×Obj)) (s:Shared) (σ:St) (H:Hp) (Q:List V→Hp→Prop),Inv X pins σ H s→t σ H Q→wpAny (model X.prog X.w) X.A (spliced (backTo pos (starEach es X.env))) (AP X pins σ Q) X.xe s
noncomputable def PS (X:Cx) (st:Stmt) (t:TS):Prop :=
  ∀ (pins:List (Addr×Obj)) (s:Shared) (σ:St) (H:Hp) (D:Ends),Inv X pins σ H s→t D σ H→wpAny (model X.prog X.w) X.A (exec st X.env) (SP X pins D) X.xe s
noncomputable def PSs (X:Cx) (st:List Stmt) (t:TS):Prop :=
  ∀ (pins:List (Addr×Obj)) (s:Shared) (σ:St) (H:Hp) (D:Ends),Inv X pins σ H s→t D σ H→wpAny (model X.prog X.w) X.A (execs st X.env) (SP X pins D) X.xe s
theorem thn {α:Type} {t:Sem α} {Q Q':α→Shared→Prop} {M:Model} {A:Around} {E:Value→Shared→Prop} {s:Shared} (h:wpAny M A t Q E s) (hQ:∀ a s,Q a s→Q' a s):wpAny M A t Q' E s:=wpAny_mono h hQ fun _ _ x=>x
section
variable {X:Cx}
theorem bin {a b:Expr} {ta tb:TE} (ha:PE X a ta) (hb:PE X b tb) {pins:List (Addr×Obj)} {s:Shared} {σ:St} {H:Hp} {R:V→V→Hp→Prop} (I:Inv X pins σ H s) (h:ta σ H fun x H1=>tb σ H1 fun y H2=>R x y H2)
    {α:Type} {Q:α→Shared→Prop} {f:Value→Value→Sem α}
    (hf:∀ v u s2 x y H2,Inv X pins σ H2 s2→RelV x v→RelV y u→R x y H2→wpAny (model X.prog X.w) X.A (f v u) Q X.xe s2) :
    wpAny (model X.prog X.w) X.A (eval a X.env) (fun v s₁=>wpAny (model X.prog X.w) X.A (eval b X.env) (fun u s₂=>wpAny (model X.prog X.w) X.A (f v u) Q X.xe s₂) X.xe s₁) X.xe s:=by
  refine thn (ha pins s σ H _ I h) fun v s1 ⟨x,H1,I1,r1,q1⟩=>?_
  refine thn (hb pins s1 σ H1 _ I1 q1) fun u s2 ⟨y,H2,I2,r2,q2⟩=>?_
  exact hf v u s2 x y H2 I2 r1 r2 q2
noncomputable def tVar (i:Nat):TE:=fun σ H Q=>∃ v,σ[i]?=some (some v)∧Q v H
noncomputable def tC (v:V):TE:=fun _ H Q=>Q v H
theorem zbi {i:Nat} {x:Str} {pos:Pos} (hN:X.N[i]?=some x) (hv:Vis X.env.scope x) (hd:(x == ("__debug__":Str))=false:=by decide) (hcd:(x == ("__classdict__":Str))=false:=by decide):PE X (.Name x pos) (tVar i):=by
  intro pins s σ H Q I h
  obtain ⟨v,e,h⟩:=h
  obtain ⟨m,hn,hl⟩:=I.loc
  obtain ⟨u,r,l⟩:=hl i x v hN e hv
  have fin:EP X pins σ Q u s:=⟨v,H,I,r,h⟩
  rcases l with ⟨hk,hm⟩ | ⟨hk,c,hc,hcell⟩
  · exact wpAny_Name (wpAny_loadName_local I.ok.kind hk hn hm fin) hd
  · rcases hk with hk | hk
    · exact wpAny_Name (wpAny_loadName_cell I.ok.kind hk hc hcell fin) hd
    · exact wpAny_Name (wpAny_loadName_free I.ok.kind hk hc hcell fin hcd) hd
theorem yb8 {i j pos}:PE X (.Constant (.int i) j pos) (tC (.int i)):=fun _ _ _ H _ I h=>wpAny_Constant_int ⟨.int i,H,I.tok _,⟨_,rfl⟩,h⟩
theorem ya1 {b j pos}:PE X (.Constant (.bool b) j pos) (tC (.bl b)):=fun _ _ _ H _ I h=>Constant_bool ⟨.bl b,H,I,rfl,h⟩
theorem yb3 {j pos}:PE X (.Constant .none j pos) (tC .non):=fun _ _ _ H _ I h=>Constant_none ⟨.non,H,I,rfl,h⟩
theorem zb3 {x j pos}:PE X (.Constant (.str x) j pos) (tC (.str x)):=fun _ _ _ H _ I h=>Calls.Constant_str ⟨.str x,H,I.tok _,⟨_,rfl⟩,h⟩
noncomputable def Gl (X:Cx) (x:Str):Prop:=X.env.kindOf x=some .globalImplicit
theorem ZT {E:Value→Shared→Prop} {pins:List (Addr×Obj)} {s:Shared} {σ:St} {H:Hp} {x:Str} {u:Value} {pos:Pos} {Q:Value→Shared→Prop} (I:Inv X pins σ H s) (hg:Gl X x) (hm:X.mg x=some u) (h:Q u s)
    (hd:(x == ("__debug__":Str))=false:=by decide):wpAny (model X.prog X.w) X.A (eval (.Name x pos) X.env) Q E s :=
  Calls.Name_function_global I.ok.kind hg (Calls.loadGlobal_global (by rw [I.ok.glob]; exact I.mod.glob.keeps I.bk) hm h) hd
theorem Q2 {E:Value→Shared→Prop} {pins:List (Addr×Obj)} {s:Shared} {σ:St} {H:Hp} {x:Str} {u:Value} {pos:Pos} {Q:Value→Shared→Prop} (I:Inv X pins σ H s) (hg:Gl X x) (hm:X.mg x=none) (hv:bootBuiltins x=some u) (h:Q u s)
    (hn:x≠"__name__":=by decide) (hd:(x == ("__debug__":Str))=false:=by decide):wpAny (model X.prog X.w) X.A (eval (.Name x pos) X.env) Q E s:=by
  obtain ⟨mb,h1,h2⟩:=I.mod.blt
  exact Calls.Name_function_global I.ok.kind hg (Calls.loadGlobal_builtin (by rw [I.ok.glob]; exact I.mod.glob.keeps I.bk) hm (by rw [I.ok.blt]; exact h1.keeps I.bk) ((h2 x hn).trans hv) h) hd
theorem Ya2 {x:Str} {v:V} {u:Value} {pos:Pos} (hg:Gl X x) (hm:X.mg x=some u) (r:RelV v u) (hd:(x == ("__debug__":Str))=false:=by decide):PE X (.Name x pos) (tC v) :=
  fun _ _ _ H _ I h=>ZT I hg hm ⟨v,H,I,r,h⟩ hd
theorem YbD {x:Str} {v:V} {u:Value} {pos:Pos} (hg:Gl X x) (hm:X.mg x=none) (hv:bootBuiltins x=some u) (r:RelV v u) (hn:x≠"__name__":=by decide) (hd:(x == ("__debug__":Str))=false:=by decide):PE X (.Name x pos) (tC v) :=
  fun _ _ _ H _ I h=>Q2 I hg hm hv ⟨v,H,I,r,h⟩ hn hd
variable {a b:Expr} {ta tb:TE} {pos:Pos}
noncomputable def PC (X:Cx) (op:CmpOp) (a b:Expr) (t:TE):Prop :=
  ∀ (pins:List (Addr×Obj)) (s:Shared) (σ:St) (H:Hp) (Q:VK),Inv X pins σ H s→t σ H Q →
    wpAny (model X.prog X.w) X.A (eval a X.env) (fun v s₁=>wpAny (model X.prog X.w) X.A (eval b X.env) (fun u s₂=>wpAny (model X.prog X.w) X.A (compareOp op v u) (EP X pins σ Q) X.xe s₂) X.xe s₁) X.xe s
theorem yaR (b:Expr) {op:CmpOp} (h:op≠.In) (h2:op≠.NotIn):behindInMarks op b=false:=by
  have e1:(op == CmpOp.In)=false:=by cases op <;> first | rfl | exact absurd rfl h
  have e2:(op == CmpOp.NotIn)=false:=by cases op <;> first | rfl | exact absurd rfl h2
  cases b <;> simp [behindInMarks,e1,e2]
noncomputable def tNotN (ta:TE):TE:=fun σ H Q=>ta σ H fun x H1=>Q (.bl (!decide (x=.non))) H1
theorem RelV.none_iff {x:V} {v:Value} (r:RelV x v):(v == Value.none)=decide (x=.non):=by
  cases x with
  | non=>cases r; rfl
  | bl _=>cases r; rfl
  | int _=>obtain ⟨t,rfl⟩:=r; rfl
  | str _=>obtain ⟨t,rfl⟩:=r; rfl
  | byt _=>obtain ⟨t,rfl⟩:=r; rfl
  | flt _=>obtain ⟨t,rfl⟩:=r; rfl
  | ref _=>cases r; rfl
  | ty _=>cases r; rfl
theorem ya2 {j pos'} (ha:PE X a ta):PC X .IsNot a (.Constant .none j pos') (tNotN ta):=by
  intro pins s σ H Q I h
  refine thn (ha pins s σ H _ I h) fun v s1 ⟨x,H1,I1,r1,q1⟩=>?_
  exact Constant_none (isnot_none_gen ⟨.bl _,H1,I1,by rw [r1.none_iff]; rfl,q1⟩)
noncomputable def tB (t:TE):TT:=fun σ H Q=>t σ H fun x H1=>∃ c,x=.bl c∧Q c H1
theorem qbV {op:CmpOp} {t:TE} (h:PC X op a b t) (h1:behindInMarks op b=false:=by first | exact yaR _ (by decide) (by decide) | rfl):PE X (.Compare a [op] [b] pos) t:=fun pins s σ H Q I hw=>wpAny_Compare1 (h pins s σ H Q I hw) h1
theorem Yb9 {op:CmpOp} {t:TE} (h:PC X op a b t) (h1:behindInMarks op b=false:=by first | exact yaR _ (by decide) (by decide) | rfl):PT X (.Compare a [op] [b] pos) (tB t):=by
  intro pins s σ H Q I hw
  refine wpAny_isTrue_Compare1 (thn (h pins s σ H _ I hw) fun v s1 h1=>thn h1 fun u s2 h2=>thn h2 fun c s3 ⟨x,H1,I1,r1,q1⟩=>?_) h1
  obtain ⟨d,rfl,q⟩:=q1
  cases r1
  exact wpAny_truthy_bool ⟨H1,I1,q⟩
theorem zb9 {e:Expr} {t:TE} (h:PE X e t) (he:∀ whole,isTrue e X.env whole=(do let v←whole; standAt e.pos; holding [v] (truthy v)):=by intro _; rfl):PT X e (tB t):=by
  intro pins s σ H Q I hw
  refine isTrue_plain (thn (h pins s σ H _ I hw) fun v s1 ⟨x,H1,I1,r1,q1⟩=>?_) (he _)
  obtain ⟨d,rfl,q⟩:=q1
  cases r1
  exact wpAny_truthy_bool ⟨H1,I1,q⟩
variable {tA tB':TT} {rest:List Expr}
noncomputable def tAnd (t u:TT):TT:=fun σ H Q=>t σ H fun c H1=>if c=true then u σ H1 Q else Q false H1
noncomputable def tOr (t u:TT):TT:=fun σ H Q=>t σ H fun c H1=>if c=true then Q true H1 else u σ H1 Q
noncomputable def tNot (t:TT):TT:=fun σ H Q=>t σ H fun c H1=>Q (!c) H1
theorem ybL (ha:PT X a tA):PW X (.BoolOp .And [a] pos) tA:=by
  intro wh pins s σ H Q I h
  refine isTrue_and (thn (ha pins s σ H Q I h) fun c s1 e=>?_)
  cases c with
  | true=>exact isTrue_and_nil e
  | false=>exact e
theorem Qb2 (ha:PT X a tA):PW X (.BoolOp .Or [a] pos) tA:=by
  intro wh pins s σ H Q I h
  refine isTrue_or (thn (ha pins s σ H Q I h) fun c s1 e=>?_)
  cases c with
  | false=>exact isTrue_or_nil e
  | true=>exact e
theorem zb2 (ha:PT X a tA) (hb:PW X (.BoolOp .And (b::rest) pos) tB'):PW X (.BoolOp .And (a::b::rest) pos) (tAnd tA tB'):=by
  intro wh pins s σ H Q I h
  refine isTrue_and (thn (ha pins s σ H _ I h) fun c s1 ⟨H1,I1,q1⟩=>?_)
  cases c with
  | true=>exact hb wh pins s1 σ H1 Q I1 q1
  | false=>exact ⟨H1,I1,q1⟩
theorem pw_or (ha:PT X a tA) (hb:PW X (.BoolOp .Or (b::rest) pos) tB'):PW X (.BoolOp .Or (a::b::rest) pos) (tOr tA tB'):=by
  intro wh pins s σ H Q I h
  refine isTrue_or (thn (ha pins s σ H _ I h) fun c s1 ⟨H1,I1,q1⟩=>?_)
  cases c with
  | true=>exact ⟨H1,I1,q1⟩
  | false=>exact hb wh pins s1 σ H1 Q I1 q1
theorem qbT (ha:PT X a tA):PT X (.UnaryOp .Not a pos) (tNot tA):=by
  intro pins s σ H Q I h
  exact isTrue_not (ha pins s σ H (fun c H1=>Q (!c) H1) I h)
noncomputable def tAndV (ta tb:TE):TE:=fun σ H Q=>ta σ H fun x H1=>∃ c,x=.bl c∧if c=true then tb σ H1 Q else Q (.bl false) H1
noncomputable def tOrV (ta tb:TE):TE:=fun σ H Q=>ta σ H fun x H1=>∃ c,x=.bl c∧if c=true then Q (.bl true) H1 else tb σ H1 Q
noncomputable def tNotV (ta:TE):TE:=fun σ H Q=>ta σ H fun x H1=>∃ c,x=.bl c∧Q (.bl (!c)) H1
theorem Ybx {op} {t:TE} (h:PE X a t):PE X (.BoolOp op [a] pos) t:=fun pins s σ H Q I hw=>BoolOp_one (h pins s σ H Q I hw)
theorem yca (ha:PE X a ta) (hb:PE X (.BoolOp .And (b::rest) pos) tb):PE X (.BoolOp .And (a::b::rest) pos) (tAndV ta tb):=by
  intro pins s σ H Q I h
  refine BoolOp_and (thn (ha pins s σ H _ I h) fun v s1 ⟨x,H1,I1,r1,q1⟩=>?_)
  obtain ⟨c,rfl,q1⟩:=q1
  cases r1
  refine wpAny_truthy_bool ?_
  cases c with
  | true=>exact hb pins s1 σ H1 Q I1 q1
  | false=>exact ⟨.bl false,H1,I1,rfl,q1⟩
theorem pe_or (ha:PE X a ta) (hb:PE X (.BoolOp .Or (b::rest) pos) tb):PE X (.BoolOp .Or (a::b::rest) pos) (tOrV ta tb):=by
  intro pins s σ H Q I h
  refine BoolOp_or (thn (ha pins s σ H _ I h) fun v s1 ⟨x,H1,I1,r1,q1⟩=>?_)
  obtain ⟨c,rfl,q1⟩:=q1
  cases r1
  refine wpAny_truthy_bool ?_
  cases c with
  | false=>exact hb pins s1 σ H1 Q I1 q1
  | true=>exact ⟨.bl true,H1,I1,rfl,q1⟩
theorem qb0 (ha:PE X a ta):PE X (.UnaryOp .Not a pos) (tNotV ta):=by
  intro pins s σ H Q I h
  refine UnaryOp_ (thn (ha pins s σ H _ I h) fun v s1 ⟨x,H1,I1,r1,q1⟩=>?_)
  obtain ⟨c,rfl,q1⟩:=q1
  cases r1
  exact not_of (wpAny_truthy_bool ⟨.bl (!c),H1,I1,rfl,q1⟩)
noncomputable def tIf (t:TT) (ta tb:TE):TE:=fun σ H Q=>t σ H fun c H1=>if c=true then ta σ H1 Q else tb σ H1 Q
theorem ybv {c:Expr} (hc:PT X c tA) (ha:PE X a ta) (hb:PE X b tb):PE X (.IfExp c a b pos) (tIf tA ta tb):=by
  intro pins s σ H Q I h
  refine wpAny_IfExp (thn (hc pins s σ H _ I h) fun d s1 ⟨H1,I1,q1⟩=>?_)
  cases d with
  | true=>exact ha pins s1 σ H1 Q I1 q1
  | false=>exact hb pins s1 σ H1 Q I1 q1
end
noncomputable def SqL (K:PySem.W.Frag) (H:Hp) (a:Addr) (xs:List V):Prop :=
  Rd H a (.lst xs) ∨
    ∃ (o:Obj) (its:Array Value) (n:Nat),K.lookup a=some o∧o.cls=.type "list"∧o.dict=none∧o.data=.seq its n∧its.size≤sizeLine∧Vals xs its.toList
noncomputable def SqT (K:PySem.W.Frag) (H:Hp) (a:Addr) (xs:List V):Prop :=
  Rd H a (.tup xs) ∨
    ∃ (o:Obj) (its:Array Value) (n:Nat),K.lookup a=some o∧o.cls=.type "tuple"∧o.data=.seq its n∧its.size≤sizeLine∧Vals xs its.toList
noncomputable def absV:Value→Option V
  | .none=>some .non
  | .bool b=>some (.bl b)
  | .int i _=>some (.int i)
  | .str x _=>some (.str x)
  | .bytes b _=>some (.byt b)
  | .float b _=>some (.flt b)
  | .ref a=>some (.ref a)
  | .type n=>some (.ty n)
  | _=>none
theorem RelV.abs {x:V} {u:Value} (r:RelV x u):absV u=some x:=by
  cases x with
  | non=>cases r; rfl
  | bl _=>cases r; rfl
  | int _=>obtain ⟨t,rfl⟩:=r; rfl
  | str _=>obtain ⟨t,rfl⟩:=r; rfl
  | byt _=>obtain ⟨t,rfl⟩:=r; rfl
  | flt _=>obtain ⟨t,rfl⟩:=r; rfl
  | ref _=>cases r; rfl
  | ty _=>cases r; rfl
theorem RelV.inj {x y:V} {u:Value} (r:RelV x u) (q:RelV y u):x=y:=Option.some.inj (r.abs.symm.trans q.abs)
theorem Vals.inj:∀ {xs ys:List V} {us:List Value},Vals xs us→Vals ys us→xs=ys
  | _,_,_,.nil,.nil=>rfl
  | _,_,_,.cons r t,.cons r' t'=>by rw [r.inj r',Vals.inj t t']
section
variable {X:Cx} {pins:List (Addr×Obj)} {σ:St} {H:Hp} {s:Shared} {a:Addr} {xs ys:List V}
theorem SqL.of {K:PySem.W.Frag} (h:H a=some (.lst xs)):SqL K H a xs:=.inl (.inl h)
theorem SqT.of {K:PySem.W.Frag} (h:H a=some (.tup xs)):SqT K H a xs:=.inl (.inl h)
theorem Inv.list (I:Inv X pins σ H s) (h:SqL X.K H a xs):∃ its:List Value,Vals xs its∧PlainL s.heap a its.toArray∧xs.length≤sizeLine:=by
  rcases h with h | ⟨o,its,n,hk,hc,hd,hs,hz,r⟩
  · obtain ⟨z,its,n,r,e⟩:=h.ok I.hok
    exact ⟨its,r,⟨_,n,e,rfl,rfl,rfl⟩,z⟩
  · refine ⟨its.toList,r,⟨o,n,I.kIn a o hk,hc,hd,by simpa using hs⟩,?_⟩
    have e:=r.length
    simp only [Array.length_toList] at e
    omega
theorem Inv.tuple (I:Inv X pins σ H s) (h:SqT X.K H a xs):∃ its:List Value,Vals xs its∧IsTup s.heap a its.toArray∧xs.length≤sizeLine:=by
  rcases h with h | ⟨o,its,n,hk,hc,hs,hz,r⟩
  · obtain ⟨z,its,r,p⟩:=h.ok I.hok
    exact ⟨its,r,p,z⟩
  · refine ⟨its.toList,r,⟨o,I.kIn a o hk,hc,n,by simpa using hs⟩,?_⟩
    have e:=r.length
    simp only [Array.length_toList] at e
    omega
theorem Inv.list_inj (I:Inv X pins σ H s) (h:SqL X.K H a xs) (h':SqL X.K H a ys):xs=ys:=by
  obtain ⟨its,r,⟨o,n,e,_,_,d⟩,_⟩:=I.list h
  obtain ⟨its',r',⟨o',n',e',_,_,d'⟩,_⟩:=I.list h'
  rw [e] at e'; cases e'
  rw [d] at d'
  injection d' with d1 _
  have:its=its':=by simpa using congrArg Array.toList d1
  subst this
  exact r.inj r'
theorem Inv.tuple_inj (I:Inv X pins σ H s) (h:SqT X.K H a xs) (h':SqT X.K H a ys):xs=ys:=by
  obtain ⟨its,r,⟨o,e,_,n,d⟩,_⟩:=I.tuple h
  obtain ⟨its',r',⟨o',e',_,n',d'⟩,_⟩:=I.tuple h'
  rw [e] at e'; cases e'
  rw [d] at d'
  injection d' with d1 _
  have:its=its':=by simpa using congrArg Array.toList d1
  subst this
  exact r.inj r'
end
section
variable {X:Cx} {st:Stmt} {rest:List Stmt} {t u:TS} {e:Expr} {te:TE} {pos:Pos}
noncomputable def zbO:TS:=fun D σ H=>D.nx σ H
noncomputable def tSeq (t u:TS):TS:=fun D σ H=>t {D with nx:=u D} σ H
theorem qbE:PSs X [] zbO:=fun _ _ σ H _ I h=>wpAny_execs_nil ⟨σ,H,I,h⟩
theorem Ybw (h1:PS X st t) (h2:PSs X rest u):PSs X (st::rest) (tSeq t u):=by
  intro pins s σ H D I h
  refine wpAny_execs_cons (thn (h1 pins s σ H {D with nx:=u D} I h) fun f s1 q=>?_)
  cases f with
  | next =>
    obtain ⟨σ',H',I',q⟩:=q
    exact h2 pins s1 σ' H' D I' q
  | ret v=>exact q
  | brk=>exact q
  | cont=>exact q
theorem ZbM (h1:PS X st t):PSs X [st] t:=by
  intro pins s σ H D I h
  refine wpAny_execs_cons (thn (h1 pins s σ H D I h) fun f s1 q=>?_)
  cases f with
  | next=>exact wpAny_execs_nil q
  | ret v=>exact q
  | brk=>exact q
  | cont=>exact q
theorem QbM:PS X (.Pass pos) zbO:=fun _ _ σ H _ I h=>wpAny_Pass ⟨σ,H,I,h⟩
theorem Inv.quiet {pins:List (Addr×Obj)} {σ:St} {H:Hp} {s:Shared} (I:Inv X pins σ H s):interactive X.env=false:=by simp [interactive,I.ok.kind]
noncomputable def tDrop (te:TE):TS:=fun D σ H=>te σ H fun _ H1=>D.nx σ H1
theorem QbJ (he:PE X e te) (hs:swapsWith e none pos.line X.env=pure false:=by rfl):PS X (.Expr e pos) (tDrop te):=by
  intro pins s σ H D I h
  exact wpAny_Expr_any (thn (he pins s σ H _ I h) fun v s1 ⟨x,H1,I1,r1,q1⟩=>⟨σ,H1,I1,q1⟩) I.quiet hs
noncomputable def tRet (te:TE):TS:=fun D σ H=>te σ H D.rt
theorem Zby (he:PE X e te):PS X (.Return (some e) pos) (tRet te):=by
  intro pins s σ H D I h
  exact wpAny_Return_some (thn (he pins s σ H _ I h) fun v s1 ⟨x,H1,I1,r1,q1⟩=>⟨x,σ,H1,I1,r1,q1⟩)
noncomputable def tIfS (c:TT) (t u:TS):TS:=fun D σ H=>c σ H fun b H1=>if b=true then t D σ H1 else u D σ H1
theorem ps_if {c:Expr} {a b:List Stmt} {tc:TT} (hc:PT X c tc) (ha:PSs X a t) (hb:PSs X b u):PS X (.If c a b pos) (tIfS tc t u):=by
  intro pins s σ H D I h
  refine wpAny_If (thn (hc pins s σ H _ I h) fun d s1 ⟨H1,I1,q1⟩=>?_)
  cases d with
  | true=>exact ha pins s1 σ H1 D I1 q1
  | false=>exact hb pins s1 σ H1 D I1 q1
end
noncomputable abbrev TG:=V→St→Hp→(St→Hp→Prop)→Prop
noncomputable abbrev TGs:=List V→St→Hp→(St→Hp→Prop)→Prop
noncomputable def PG (X:Cx) (target:Expr) (t:TG):Prop :=
  ∀ (pins:List (Addr×Obj)) (s:Shared) (σ:St) (H:Hp) (v:V) (u:Value) (Q:St→Hp→Prop),Inv X pins σ H s→RelV v u→t v σ H Q →
    wpAny (model X.prog X.w) X.A (assign target X.env u) (fun _ s'=>∃ σ' H',Inv X pins σ' H' s'∧Q σ' H') X.xe s
noncomputable def PGs (X:Cx) (ts:List Expr) (t:TGs):Prop :=
  ∀ (pins:List (Addr×Obj)) (s:Shared) (σ:St) (H:Hp) (vs:List V) (us:List Value) (Q:St→Hp→Prop),Inv X pins σ H s→Vals vs us→t vs σ H Q →
    wpAny (model X.prog X.w) X.A (assignInOrder ((assignEach ts X.env).map (·.2)) us) (fun _ s'=>∃ σ' H',Inv X pins σ' H' s'∧Q σ' H') X.xe s
noncomputable abbrev TSet:=V→V→V→Hp→(Hp→Prop)→Prop
noncomputable def PSet (X:Cx) (t:TSet):Prop :=
  ∀ (pins:List (Addr×Obj)) (s:Shared) (σ:St) (H:Hp) (o i v:V) (ov iv u:Value) (Q:Hp→Prop),Inv X pins σ H s→RelV o ov→RelV i iv→RelV v u→t o i v H Q →
    wpAny (model X.prog X.w) X.A (setItem ov iv u) (fun _ s'=>∃ H',Inv X pins σ H' s'∧Q H') X.xe s
section
variable {X:Cx} {pos:Pos}
noncomputable def Zbw (i:Nat):TG:=fun v σ H Q=>Q (σ.set i (some v)) H
theorem ya3 {i:Nat} {x:Str} (hN:X.N.Nodup) (hi:X.N[i]?=some x) (hx:Loc X.env.scope x) (hf:X.fn x=true∨X.env.scope.names.lookup x=some .local:=by first | exact .inl rfl | exact .inr rfl | assumption):PG X (.Name x pos) (Zbw i):=by
  intro pins s σ H v u Q I r h
  exact wpAny_assign_Name (zbu I hN hi hx r (fun s' I'=>⟨_,H,I',h⟩) hf)
noncomputable def gNil:TGs:=fun vs σ H Q=>vs=[]∧Q σ H
noncomputable def gCons (t:TG) (u:TGs):TGs:=fun vs σ H Q=>∃ v r,vs=v::r∧t v σ H fun σ' H'=>u r σ' H' Q
theorem ZbC:PGs X [] gNil:=by
  intro pins s σ H vs us Q I r h
  obtain ⟨e,h⟩:=h
  subst e
  cases r
  exact assignInOrder_nil ⟨σ,H,I,h⟩
theorem ybx {e:Expr} {es:List Expr} {t:TG} {u:TGs} (h1:PG X e t) (h2:PGs X es u)
    (hs:(assignEach (e::es) X.env).map (·.2)=assign e X.env::(assignEach es X.env).map (·.2):=by rfl):PGs X (e::es) (gCons t u):=by
  intro pins s σ H vs us Q I r h
  obtain ⟨v,vr,e1,h⟩:=h
  subst e1
  cases r with
  | cons r rr =>
    rw [hs]
    refine assignInOrder_cons (thn (h1 pins s σ H _ _ _ I r h) fun _ s1 ⟨σ1,H1,I1,q1⟩=>?_)
    exact h2 pins s1 σ1 H1 _ _ Q I1 rr q1
noncomputable def gTup (K:PySem.W.Frag) (n:Nat) (t:TGs):TG:=fun v σ H Q=>∃ a xs,v=.ref a∧SqT K H a xs∧xs.length=n∧t xs σ H Q
theorem QbV {es:List Expr} {k:Nat} {t:TGs} {n:Nat} (hc:X.calm=true) (h:PGs X es t)
    (hn:(assignEach es X.env).length=n:=by rfl) (hst:(assignEach es X.env).findIdx? (·.1)=none:=by rfl):PG X (.Tuple es k pos) (gTup X.K n t):=by
  intro pins s σ H v u Q I r hw
  obtain ⟨a,xs,e1,hq,hl,hw⟩:=hw
  subst e1
  cases r
  obtain ⟨its,rv,ht,hz⟩:=I.tuple hq
  refine assign_Tuple_tuple (I.ok.hd hc) ht (by simp [hn,← hl,rv.length]) hst fun h' hx=>?_
  have I1:Inv X pins σ H {s with heap:=h'}:=I.kept (t':=s.toks) fun b o e=>hx b o (Nat.ne_of_lt (Heap.lt_size e)) e
  exact h pins _ σ H xs _ Q I1 (by simpa using rv) hw
noncomputable def gSub (to ti:TE) (t:TSet):TG:=fun v σ H Q=>to σ H fun o H1=>ti σ H1 fun i H2=>t o i v H2 fun H3=>Q σ H3
theorem ybZ {o i:Expr} {to ti:TE} {t:TSet} (ho:PE X o to) (hi:PE X i ti) (hs:PSet X t)
    (ha:∀ v,assign (.Subscript o i pos) X.env v=(do
      let ov←holding [v] (eval o X.env)
      let iv←holding [v,ov] (eval i X.env)
      standAt pos
      holding [v,ov,iv] (setItem ov iv v)
      release [v,ov,iv] []):=by intro _; rfl):PG X (.Subscript o i pos) (gSub to ti t):=by
  intro pins s σ H v u Q I r h
  rw [ha]
  refine wpAny_bind (wpAny_holding (thn (ho pins s σ H _ I h) fun ov s1 ⟨x,H1,I1,r1,q1⟩=>?_))
  refine wpAny_bind (wpAny_holding (thn (hi pins s1 σ H1 _ I1 q1) fun iv s2 ⟨y,H2,I2,r2,q2⟩=>?_))
  refine wpAny_bind (wpAny_standAt (wpAny_bind (wpAny_holding (thn (hs pins s2 σ H2 x y v ov iv u _ I2 r1 r2 r q2) fun _ s3 ⟨H3,I3,q3⟩=>?_))))
  exact wpAny_release ⟨σ,H3,I3,q3⟩
noncomputable def tAsg (te:TE) (g:TG):TS:=fun D σ H=>te σ H fun x H1=>g x σ H1 D.nx
theorem Zbm {tg e:Expr} {te:TE} {g:TG} (he:PE X e te) (hg:PG X tg g) (hs:swapsWithSole [tg] e pos.line X.env=pure false:=by rfl) (hw:swappedStores [tg] e X.env=pure none:=by rfl)
    (h1:(assignEach [tg] X.env).map (·.2)=[assign tg X.env]:=by rfl):PS X (.Assign [tg] e pos) (tAsg te g):=by
  intro pins s σ H D I h
  refine wpAny_Assign_stores (thn (he pins s σ H _ I h) fun v s1 ⟨x,H1,I1,r1,q1⟩=>?_) hs hw
  rw [h1]
  exact thn (hg pins s1 σ H1 x v _ I1 r1 q1) fun _ s2 q=>q
end
structure It where
  go:Nat→Hp→Prop
  yld:Nat→Hp→V→Hp→Prop
  stop:Nat→Hp→Prop
noncomputable def qH (X:Cx) (pins:List (Addr×Obj)) (H:Hp) (b:Addr):Prop :=
  H b=none∧b≠X.env.locals∧b∉X.fs∧(b∈X.ex∨X.s₀.heap.objs.size≤b)∧(∀ x c,X.env.cells.lookup x=some c→c≠b)∧∀ p∈X.pn++pins,p.1≠b
theorem Inv.fpOk {X:Cx} {pins:List (Addr×Obj)} {σ:St} {H H':Hp} {s:Shared} {b:Addr} (I:Inv X pins σ H s) (hb:s.heap.objs.size≤b) (hn:H' b=none):qH X pins H' b:=by
  refine ⟨hn,Nat.ne_of_gt (Nat.lt_of_lt_of_le I.lt hb),I.nofs hb,.inr (Nat.le_trans I.sz hb),fun x c e z=>?_,fun p hp z=>?_⟩
  · obtain ⟨v,q⟩:=I.cell x c e
    exact absurd (Nat.lt_of_lt_of_le q.lt (by rw [z]; exact hb)) (Nat.lt_irrefl _)
  · exact absurd (Nat.lt_of_lt_of_le (Heap.lt_size (I.pin p hp).1) (by rw [z]; exact hb)) (Nat.lt_irrefl _)
structure Turn (P:Program) (w:World) (K:PySem.W.Frag) (tg:Expr) (J:It) (fp:List Addr) (it:Addr) (tn:Nat→Heap→Prop):Prop where
  mem:it∈fp
  obj:∀ i h,tn i h→∀ b∈fp,∃ o,h.get? b=some o∧∀ v,o.data≠.cell v
  keep:∀ i h h',tn i h→(∀ b∈fp,∀ o,h.get? b=some o→h'.get? b=some o)→tn i h'
  item:∀ (X:Cx),X.prog=P→X.w=w→X.K=K→X.calm=true→∀ (i:Nat) (pins:List (Addr×Obj)) (s:Shared) (σ:St) (H:Hp) (E:Value→Shared→Prop),Inv X pins σ H s→(∀ b∈fp,qH X pins H b)→tn i s.heap→J.go i H →
    wpAny (model P w) X.A (pyNext (.ref it)) (fun r s1=>∃ u,r=some u ∧
      wpAny (model P w) X.A (letOwnedTupleGo tg (.ref it) u) (fun _ s2=>∃ x H',Inv X pins σ H' s2∧RelV x u∧J.yld i H x H'∧tn (i + 1) s2.heap∧∀ b∈fp,H' b=none) E s1) E s
  done:∀ (X:Cx),X.prog=P→X.w=w→X.K=K→X.calm=true→∀ (i:Nat) (pins:List (Addr×Obj)) (s:Shared) (σ:St) (H:Hp) (E:Value→Shared→Prop),Inv X pins σ H s→(∀ b∈fp,qH X pins H b)→tn i s.heap→J.stop i H →
    wpAny (model P w) X.A (pyNext (.ref it)) (fun r s1=>r=none∧Inv X pins σ H s1) E s
  self:∀ (A:Around) (i:Nat) (s:Shared) (Q:Value→Shared→Prop) (E:Value→Shared→Prop),tn i s.heap→Q (.ref it) s→wpAny (model P w) A (pyIter (.ref it)) Q E s
noncomputable abbrev TI:=St→Hp→(It→Hp→Prop)→Prop
noncomputable def PIE (X:Cx) (pins:List (Addr×Obj)) (σ:St) (tg:Expr) (R:It→Hp→Prop) (itv:Value) (s2:Shared):Prop :=
  ∃ (it:Addr) (fp:List Addr) (tn:Nat→Heap→Prop) (J:It) (H':Hp),itv=.ref it∧Inv X pins σ H' s2∧Turn X.prog X.w X.K tg J fp it tn∧tn 0 s2.heap∧(∀ b∈fp,qH X pins H' b)∧R J H'
noncomputable def PI (X:Cx) (tg iter:Expr) (wi:TI):Prop :=
  ∀ (pins:List (Addr×Obj)) (s:Shared) (σ:St) (H:Hp) (R:It→Hp→Prop),Inv X pins σ H s→wi σ H R →
    wpAny (model X.prog X.w) X.A (eval iter X.env) (fun v s1=>wpAny (model X.prog X.w) X.A (pyIter v) (PIE X pins σ tg R) X.xe s1) X.xe s
theorem Ya5 {M:Model} {A:Around} {E:Value→Shared→Prop} {s:Shared} {tg:Expr} {it:Addr} {u:Value} {o:Obj} {n:String} {vs:Array Value} {Q:Unit→Shared→Prop} (ho:s.heap.get? it=some o) (hc:o.cls=.type n) (hd:o.data=.fields vs)
    (hn:["enumerate","zip","dict_itemiterator","dict_reverseitemiterator","odict_iterator","itertools.zip_longest","itertools.pairwise"].contains n=false) (hQ:Q () s):wpAny M A (letOwnedTupleGo tg (.ref it) u) Q E s:=by
  unfold letOwnedTupleGo
  cases tg <;> first
    | exact wpAny_pure hQ
    | (cases u <;> first
        | exact wpAny_pure hQ
        | (refine wpAny_bind (wpAny_load ho ?_)
           rw [hc,hd]
           show wpAny M A (if (["enumerate","zip","dict_itemiterator","dict_reverseitemiterator","odict_iterator","itertools.zip_longest","itertools.pairwise"].contains n&&vs[0]? == some (rawInt _))=true then _ else _) Q E s
           rw [if_neg (by intro h; rw [hn,Bool.false_and] at h; cases h)]
           exact wpAny_pure hQ))
noncomputable def Itl (K:PySem.W.Frag) (a:Addr):It :=
  ⟨fun i H=>∃ xs x,SqL K H a xs∧xs[i]?=some x,fun i H x H'=>H'=H∧∀ xs,SqL K H a xs→xs[i]?=some x,fun i H=>∃ xs,SqL K H a xs∧xs.length≤i⟩
noncomputable def Itt (K:PySem.W.Frag) (a:Addr):It :=
  ⟨fun i H=>∃ xs x,SqT K H a xs∧xs[i]?=some x,fun i H x H'=>H'=H∧∀ xs,SqT K H a xs→xs[i]?=some x,fun i H=>∃ xs,SqT K H a xs∧xs.length≤i⟩
noncomputable def Itr (lo:Int) (n:Nat):It:=⟨fun i _=>i < n,fun i H x H'=>H'=H∧x=.int (lo + i),fun i _=>n≤i⟩
theorem Qbb {P:Program} {w:World} {K:PySem.W.Frag} {tg:Expr} (a it:Addr):Turn P w K tg (Itl K a) [it] it (fun i h=>h.IsListIter it a i) where
  mem:=by simp
  obj:=fun i h st b hb=>by
    have e:b=it:=by simpa using hb
    subst e
    obtain ⟨o,e,c,d⟩:=st
    exact ⟨o,e,fun v z=>by rw [d] at z; cases z⟩
  keep:=fun i h h' st k=>st.at fun o e=>k it (by simp) o e
  item:=by
    intro X hP hw hK hc i pins s σ H E I hf st hg
    subst hP hw hK
    obtain ⟨xs,x,hq,hx⟩:=hg
    obtain ⟨its,rv,p,hz⟩:=I.list hq
    obtain ⟨u,hu,ru⟩:=rv.get hx
    obtain ⟨f0,f1,f2,f3,f4,f5⟩:=hf it (by simp)
    refine wpAny_pyNext_list_item st p.isList (x:=u) (by simpa using hu) fun h' st' sb=>?_
    have I1:Inv X pins σ H {s with heap:=h'}:=I.turned (t':=s.toks) (fun b o hb e=>(sb.2 b hb).trans e) f0 f1 f3 f4 f5
    obtain ⟨o,e,c,d⟩:=id st'
    exact ⟨u,rfl,Ya5 (s:={s with heap:=h'}) e c d (by decide) ⟨x,H,I1,ru,⟨rfl,fun ys hy=>by rw [I.list_inj hy hq]; exact hx⟩,st',fun b hb=>(hf b hb).1⟩⟩
  done:=by
    intro X hP hw hK hc i pins s σ H E I hf st hg
    subst hP hw hK
    obtain ⟨xs,hq,hx⟩:=hg
    obtain ⟨its,rv,p,hz⟩:=I.list hq
    obtain ⟨f0,f1,f2,f3,f4,f5⟩:=hf it (by simp)
    have hl:=rv.length
    exact wpAny_pyNext_list_end (I.ok.hd hc) st p.isList (by simp; omega) fun h' eb=>⟨rfl,I.turned (t':=s.toks) (fun b o hb e=>eb b o hb e) f0 f1 f3 f4 f5⟩
  self:=fun _ _ _ _ _ st h=>wpAny_pyIter_listiter st h
theorem YaZ {P:Program} {w:World} {K:PySem.W.Frag} {tg:Expr} (a it:Addr):Turn P w K tg (Itt K a) [it] it (fun i h=>h.IsTupleIter it a i) where
  mem:=by simp
  obj:=fun i h st b hb=>by
    have e:b=it:=by simpa using hb
    subst e
    obtain ⟨o,e,c,d⟩:=st
    exact ⟨o,e,fun v z=>by rw [d] at z; cases z⟩
  keep:=fun i h h' st k=>st.at fun o e=>k it (by simp) o e
  item:=by
    intro X hP hw hK hc i pins s σ H E I hf st hg
    subst hP hw hK
    obtain ⟨xs,x,hq,hx⟩:=hg
    obtain ⟨its,rv,p,hz⟩:=I.tuple hq
    obtain ⟨u,hu,ru⟩:=rv.get hx
    obtain ⟨f0,f1,f2,f3,f4,f5⟩:=hf it (by simp)
    refine wpAny_pyNext_tuple_item st (show s.heap.IsTuple a its.toArray from p) (x:=u) (by simpa using hu) fun h' st' sb=>?_
    have I1:Inv X pins σ H {s with heap:=h'}:=I.turned (t':=s.toks) (fun b o hb e=>(sb.2 b hb).trans e) f0 f1 f3 f4 f5
    obtain ⟨o,e,c,d⟩:=id st'
    exact ⟨u,rfl,Ya5 (s:={s with heap:=h'}) e c d (by decide) ⟨x,H,I1,ru,⟨rfl,fun ys hy=>by rw [I.tuple_inj hy hq]; exact hx⟩,st',fun b hb=>(hf b hb).1⟩⟩
  done:=by
    intro X hP hw hK hc i pins s σ H E I hf st hg
    subst hP hw hK
    obtain ⟨xs,hq,hx⟩:=hg
    obtain ⟨its,rv,p,hz⟩:=I.tuple hq
    obtain ⟨f0,f1,f2,f3,f4,f5⟩:=hf it (by simp)
    have hl:=rv.length
    exact wpAny_pyNext_tuple_end (I.ok.hd hc) st (show s.heap.IsTuple a its.toArray from p) (by simp; omega) fun h' eb=>⟨rfl,I.turned (t':=s.toks) (fun b o hb e=>eb b o hb e) f0 f1 f3 f4 f5⟩
  self:=fun _ _ _ _ _ st h=>wpAny_pyIter_tupleiter st h
theorem yaT {P:Program} {w:World} {K:PySem.W.Frag} {tg:Expr} (it:Addr) (lo:Int) (n:Nat):Turn P w K tg (Itr lo n) [it] it (fun i h=>IsRangeIter h it (lo + (i:Nat) * 1) ((n:Int) - (i:Nat)) 1) where
  mem:=by simp
  obj:=fun i h st b hb=>by
    have e:b=it:=by simpa using hb
    subst e
    exact ⟨_,st,fun v z=>by
      have z':Data.fields _=Data.cell v:=z
      cases z'⟩
  keep:=fun i h h' st k=>k it (by simp) _ st
  item:=by
    intro X hP hw hK hc i pins s σ H E I hf st hg
    subst hP hw hK
    obtain ⟨f0,f1,f2,f3,f4,f5⟩:=hf it (by simp)
    have W:=Walks.range (prog:=X.prog) (w:=X.w) (I.ok.hd hc) it lo 1 n
    refine W.item i s _ _ hg st fun v h' tk hv st' kk=>?_
    obtain ⟨t,rfl⟩:=hv
    have I1:Inv X pins σ H {s with heap:=h',toks:=tk}:=I.turned (fun b o hb e=>kk b o (by simpa using hb) e) f0 f1 f3 f4 f5
    refine ⟨_,rfl,Ya5 (s:={s with heap:=h',toks:=tk}) (n:="range_iterator") st' rfl rfl (by decide) ⟨.int (lo + i),H,I1,⟨t,?_⟩,⟨rfl,rfl⟩,st',fun b hb=>(hf b hb).1⟩⟩
    rw [Int.mul_one]
  done:=by
    intro X hP hw hK hc i pins s σ H E I hf st hg
    subst hP hw hK
    obtain ⟨f0,f1,f2,f3,f4,f5⟩:=hf it (by simp)
    exact wpAny_pyNext_range_end (I.ok.hd hc) st (by have:n≤i:=hg; omega) fun h' eb=>⟨rfl,I.turned (t':=s.toks) (fun b o hb e=>eb b o hb e) f0 f1 f3 f4 f5⟩
  self:=fun _ _ _ _ _ st h=>wpAny_pyIter_rangeiter st h
section
variable {X:Cx} {tg:Expr}
theorem qbs {pins:List (Addr×Obj)} {σ:St} {H:Hp} {s:Shared} {R:It→Hp→Prop} {E:Value→Shared→Prop} {lo hi:Int} {t u v:Tok} {tk:Nat} (I:Inv X pins σ H s) (h1:-(2 ^ 62)≤lo) (h2:lo < 2 ^ 62) (h3:-(2 ^ 62)≤hi) (h4:hi < 2 ^ 62)
    (q:R (Itr lo (hi - lo).toNat) H):wpAny (model X.prog X.w) X.A (pyIter (.ref s.heap.objs.size)) (PIE X pins σ tg R) E {s with heap:=s.heap.push {cls:=.type "range",data:=.fields #[.int lo t,.int hi u,.int 1 v]},toks:=tk}:=by
  refine wpAny_pyIter_range (IsRange.new ..) (small_one h1 h2 h3 h4) ?_
  have I1:Inv X pins σ H {s with heap:=s.heap.push {cls:=.type "range",data:=.fields #[.int lo t,.int hi u,.int 1 v]},toks:=tk}:=I.kept fun b o e=>Heap.get?_push_of_some _ e
  refine ⟨(s.heap.push {cls:=.type "range",data:=.fields #[.int lo t,.int hi u,.int 1 v]}).objs.size,[(s.heap.push {cls:=.type "range",data:=.fields #[.int lo t,.int hi u,.int 1 v]}).objs.size],_,_,H,rfl,
    I1.kept (t':=tk) fun b o e=>Heap.get?_push_of_some _ e,yaT _ lo (hi - lo).toNat,?_,fun b hb=>?_,q⟩
  · have e1:lo + ((0:Nat):Int) * 1=lo:=by simp
    have e2:(((hi - lo).toNat:Nat):Int) - ((0:Nat):Int)=Builtin.Range.rangeSize lo hi 1:=by rw [rangeSize_one]; split <;> omega
    show IsRangeIter _ _ (lo + ((0:Nat):Int) * 1) ((((hi - lo).toNat:Nat):Int) - ((0:Nat):Int)) 1
    rw [e1,e2]
    exact Heap.get?_push_size _ rfl
  · have e:b=(s.heap.push {cls:=.type "range",data:=.fields #[.int lo t,.int hi u,.int 1 v]}).objs.size:=by simpa using hb
    subst e
    exact I1.fpOk (Nat.le_refl _) (I1.hok.fresh (Nat.le_refl _))
noncomputable def iRng1 (ta:TA):TI:=fun σ H R=>ta σ H fun vs H1=>∃ j:Int,vs=[.int j]∧-(2 ^ 62)≤j∧j < 2 ^ 62∧R (Itr 0 j.toNat) H1
theorem Qbf {a:Expr} {ta:TA} {p pos:Pos} (hg:Gl X "range") (hm:X.mg "range"=none) (ha:PA X [a] ta) (hs:starEach [a] X.env=[(false,eval a X.env)]:=by rfl):PI X tg (.Call (.Name "range" p) [a] [] pos) (iRng1 ta):=by
  intro pins s σ H R I h
  refine Call_ (Q2 I hg hm boot_range (PyProof.Rows.callWith_type1 (thn (ha pos pins s σ H _ I h) fun us s1 ⟨vs,H1,I1,r1,q1⟩=>?_) hs rfl))
  obtain ⟨j,e,q1,q2,q⟩:=q1
  subst e
  cases r1 with
  | cons r rr =>
    cases rr
    obtain ⟨t,rfl⟩:=r
    exact call_range_1 (qbs I1 (by omega) (by omega) q1 q2 (by simpa using q))
noncomputable def tFor (wi:TI) (g:TG) (tb:TS):TS:=fun D σ H=>wi σ H fun J H1=>∃ W:Nat→Nat→St→Hp→Prop,(∃ m,W 0 m σ H1)∧∀ i m σ H,W i m σ H →
  (J.stop i H∧D.nx σ H)∨(J.go i H∧∃ N:St→Hp→Prop,(∀ σ' H',N σ' H'→∃ m',m' < m∧W (i + 1) m' σ' H')∧∀ x H',J.yld i H x H'→g x σ H' fun σ2 H2=>tb {D with nx:=N,ct:=N,bk:=D.nx} σ2 H2)
noncomputable def QX (fp:List Addr) (h:Heap):List (Addr×Obj):=fp.filterMap fun b=>(h.get? b).map fun o=>(b,o)
theorem zp {fp:List Addr} {h:Heap} {b:Addr} {o:Obj} (hb:b∈fp) (e:h.get? b=some o):(b,o)∈QX fp h:=List.mem_filterMap.mpr ⟨b,hb,by rw [e]; rfl⟩
theorem Ybg {fp:List Addr} {h:Heap} {p:Addr×Obj} (hp:p∈QX fp h):p.1∈fp∧h.get? p.1=some p.2:=by
  obtain ⟨b,hb,e⟩:=List.mem_filterMap.mp hp
  cases q:h.get? b with
  | none=>rw [q] at e; cases e
  | some o =>
    rw [q] at e
    have e':(b,o)=p:=Option.some.inj e
    subst e'
    exact ⟨hb,q⟩
theorem Inv.pinned {pins:List (Addr×Obj)} {σ:St} {H:Hp} {s:Shared} {fp:List Addr} (I:Inv X pins σ H s) (hf:∀ b∈fp,qH X pins H b) (ho:∀ b∈fp,∃ o,s.heap.get? b=some o∧∀ v,o.data≠.cell v):Inv X (pins++QX fp s.heap) σ H s :=
  I.pins_of fun p hp=>(List.mem_append.mp hp).elim (fun z=>I.pin p (List.mem_append_right _ z)) fun z=>by
    obtain ⟨hb,e⟩:=Ybg z
    obtain ⟨f0,f1,f2,_⟩:=hf p.1 hb
    obtain ⟨o,e',d⟩:=ho p.1 hb
    rw [e] at e'; cases e'
    exact ⟨e,f0,f1,f2,d⟩
theorem Inv.unpinned {pins pl:List (Addr×Obj)} {σ:St} {H:Hp} {s:Shared} (I:Inv X (pins++pl) σ H s):Inv X pins σ H s:=I.pins_of fun p hp=>I.pin p (List.mem_append_right _ (List.mem_append_left _ hp))
theorem ybS {iter:Expr} {body:List Stmt} {wi:TI} {g:TG} {tb:TS} {pos:Pos} (hp:PassesOwn (model X.prog X.w) X.A X.env X.xe) (hc:X.calm=true) (hi:PI X tg iter wi) (hg:PG X tg g) (hb:PSs X body tb)
    (hs:∀ x,foldedSetIterable iter X.env x=pure x:=by intro _; rfl):PS X (.For tg iter body [] pos) (tFor wi g tb):=by
  intro pins s σ H D I h
  refine wpAny_For (thn (hi pins s σ H _ I h) fun v s1 h1=>thn h1 fun itv s2 h2=>?_) hs
  obtain ⟨it,fp,tn,J,H2,e,I2,T,st2,f2,W,⟨m0,w0⟩,turn⟩:=h2
  subst e
  -- what stays true of the iterator's objects through the loop
  have stat:∀ {H':Hp},(∀ b∈fp,H' b=none)→∀ b∈fp,qH X pins H' b:=fun hn b hb=>⟨hn b hb,(f2 b hb).2⟩
  refine codeAny_forLoop_any (fun n s'=>∃ i σ' H',Inv X pins σ' H' s'∧tn i s'.heap∧(∀ b∈fp,H' b=none)∧W i n σ' H') ?_ m0 ⟨0,σ,H2,I2,st2,fun b hb=>(f2 b hb).1,w0⟩
  rintro n s3 ⟨i,σ3,H3,I3,st3,fr3,w3⟩
  rcases turn i n σ3 H3 w3 with ⟨stop,qn⟩ | ⟨go,N,hN,step⟩
  · refine wpAny_passesOwn hp (thn (T.done X rfl rfl rfl hc i pins s3 σ3 H3 X.xe I3 (stat fr3) st3 stop) fun r s4 ⟨hr,I4⟩=>?_)
    subst hr
    exact wpAny_execs_nil ⟨σ3,H3,I4,qn⟩
  · refine wpAny_passesOwn hp (thn (T.item X rfl rfl rfl hc i pins s3 σ3 H3 X.xe I3 (stat fr3) st3 go) fun r s4 ⟨u,hr,h4⟩=>?_)
    subst hr
    refine wpAny_passesOwn hp (thn h4 fun _ s5 ⟨x,H5,I5,r5,y5,st5,fr5⟩=>?_)
    have I5':=I5.pinned (stat fr5) (T.obj _ _ st5)
    refine wpAny_passesOwn hp (thn (hg _ s5 σ3 H5 x u _ I5' r5 (step x H5 y5)) fun _ s6 ⟨σ6,H6,I6,q6⟩=>?_)
    refine wpAny_passesOwn hp (thn (hb _ s6 σ6 H6 _ I6 q6) fun f s7 q7=>?_)
    have again:∀ {σ7:St} {H7:Hp},Inv X (pins++QX fp s5.heap) σ7 H7 s7→N σ7 H7→∃ m,m < n∧∃ i σ' H',Inv X pins σ' H' s7∧tn i s7.heap∧(∀ b∈fp,H' b=none)∧W i m σ' H':=fun {σ7 H7} I7 n7=>by
      obtain ⟨m',hm,w7⟩:=hN σ7 H7 n7
      refine ⟨m',hm,i + 1,σ7,H7,I7.unpinned,T.keep _ _ _ st5 fun b hb o e=>(I7.pin (b,o) (List.mem_append_right _ (List.mem_append_right _ (zp hb e)))).1,fun b hb=>?_,w7⟩
      obtain ⟨o,e,d⟩:=T.obj _ _ st5 b hb
      exact (I7.pin (b,o) (List.mem_append_right _ (List.mem_append_right _ (zp hb e)))).2.1
    cases f with
    | next=>obtain ⟨σ7,H7,I7,n7⟩:=q7; exact again I7 n7
    | cont=>obtain ⟨σ7,H7,I7,n7⟩:=q7; exact again I7 n7
    | brk=>obtain ⟨σ7,H7,I7,q7⟩:=q7; exact ⟨σ7,H7,I7.unpinned,q7⟩
    | ret v=>obtain ⟨x7,σ7,H7,I7,r7,q7⟩:=q7; exact ⟨x7,σ7,H7,I7.unpinned,r7,q7⟩
end
noncomputable abbrev R2:=V→V→Hp→VK→Prop
noncomputable def OpR (X:Cx) (f:Value→Value→Sem Value) (r:R2):Prop :=
  ∀ (pins:List (Addr×Obj)) (s:Shared) (σ:St) (H:Hp) (x y:V) (v u:Value) (Q:VK),Inv X pins σ H s→RelV x v→RelV y u→r x y H Q →
    wpAny (model X.prog X.w) X.A (f v u) (EP X pins σ Q) X.xe s
noncomputable def UnR (X:Cx) (f:Value→Sem Value) (r:V→Hp→VK→Prop):Prop :=
  ∀ (pins:List (Addr×Obj)) (s:Shared) (σ:St) (H:Hp) (x:V) (v:Value) (Q:VK),Inv X pins σ H s→RelV x v→r x H Q →
    wpAny (model X.prog X.w) X.A (f v) (EP X pins σ Q) X.xe s
noncomputable def CallR (X:Cx) (f:Value) (r:List V→Hp→VK→Prop):Prop :=
  ∀ (pins:List (Addr×Obj)) (s:Shared) (σ:St) (H:Hp) (xs:List V) (us:List Value) (Q:VK),Inv X pins σ H s→Vals xs us→r xs H Q →
    wpAny (model X.prog X.w) X.A (call f us) (EP X pins σ Q) X.xe s
noncomputable def tOp (r:R2) (ta tb:TE):TE:=fun σ H Q=>ta σ H fun x H1=>tb σ H1 fun y H2=>r x y H2 Q
noncomputable def tUn (r:V→Hp→VK→Prop) (ta:TE):TE:=fun σ H Q=>ta σ H fun x H1=>r x H1 Q
noncomputable def rI (C:Int→Int→Prop) (g:Int→Int→V):R2:=fun x y H Q=>∃ i j,x=.int i∧y=.int j∧C i j∧Q (g i j) H
noncomputable def rI0 (g:Int→Int→V):R2:=fun x y H Q=>∃ i j,x=.int i∧y=.int j∧Q (g i j) H
noncomputable def rU (g:Int→V):V→Hp→VK→Prop:=fun x H Q=>∃ i,x=.int i∧Q (g i) H
section
variable {X:Cx} {a b c:Expr} {ta tb tc:TE} {pos:Pos}
theorem binT (ha:PE X a ta) (hb:PE X b tb) {pins:List (Addr×Obj)} {s:Shared} {σ:St} {H:Hp} {R:V→V→Hp→Prop} (I:Inv X pins σ H s)
    (h:ta σ H fun x H1=>tb σ H1 fun y H2=>R x y H2) {Q:Value→Shared→Prop} {f:Value→Value→Sem Value}
    (hf:∀ v u s2 x y H2,Inv X pins σ H2 s2→RelV x v→RelV y u→R x y H2→wpAny (model X.prog X.w) X.A (f v u) Q X.xe s2) :
    wpAny (model X.prog X.w) X.A (eval a X.env) (fun v s₁=>wpAny (model X.prog X.w) X.A (eval b X.env) (fun u s₂=>wpAny (model X.prog X.w) X.A (f v u) Q X.xe s₂) X.xe s₁) X.xe s:=by
  refine thn (ha pins s σ H _ I h) fun v s1 ⟨x,H1,I1,r1,q1⟩=>?_
  refine thn (hb pins s1 σ H1 _ I1 q1) fun u s2 ⟨y,H2,I2,r2,q2⟩=>?_
  exact hf v u s2 x y H2 I2 r1 r2 q2
theorem pe_op {op:Operator} {r:R2} (ho:OpR X (binaryOp op) r) (ha:PE X a ta) (hb:PE X b tb):PE X (.BinOp a op b pos) (tOp r ta tb):=by
  intro pins s σ H Q I h
  exact wpAny_BinOp (binT ha hb I h fun v u s2 x y H2 I2 rx ry q=>ho pins s2 σ H2 x y v u Q I2 rx ry q)
theorem pe_un {op:UnaryOp} {r:V→Hp→VK→Prop} (ho:UnR X (unaryOp op) r) (ha:PE X a ta):PE X (.UnaryOp op a pos) (tUn r ta):=by
  intro pins s σ H Q I h
  exact UnaryOp_ (thn (ha pins s σ H _ I h) fun v s1 ⟨x,H1,I1,r1,q1⟩=>ho pins s1 σ H1 x v Q I1 r1 q1)
theorem opI {f:Value→Value→Sem Value} {C:Int→Int→Prop} {g:Int→Int→Int}
    (rule:∀ (i j:Int) (t u:Tok) (s:Shared) (Q:Value→Shared→Prop) (E:Value→Shared→Prop),C i j→Q (.int (g i j) s.toks) {s with toks:=s.toks + 1}→wpAny (model X.prog X.w) X.A (f (.int i t) (.int j u)) Q E s) :
    OpR X f (rI C fun i j=>.int (g i j)):=by
  intro pins s σ H x y v u Q I rx ry h
  obtain ⟨i,j,rfl,rfl,hc,q⟩:=h
  obtain ⟨t,rfl⟩:=rx
  obtain ⟨t',rfl⟩:=ry
  exact rule i j t t' s _ _ hc ⟨.int (g i j),H,I.tok _,⟨_,rfl⟩,q⟩
theorem opI0 {f:Value→Value→Sem Value} {g:Int→Int→Int}
    (rule:∀ (i j:Int) (t u:Tok) (s:Shared) (Q:Value→Shared→Prop) (E:Value→Shared→Prop),Q (.int (g i j) s.toks) {s with toks:=s.toks + 1}→wpAny (model X.prog X.w) X.A (f (.int i t) (.int j u)) Q E s) :
    OpR X f (rI0 fun i j=>.int (g i j)):=by
  intro pins s σ H x y v u Q I rx ry h
  obtain ⟨i,j,rfl,rfl,q⟩:=h
  obtain ⟨t,rfl⟩:=rx
  obtain ⟨t',rfl⟩:=ry
  exact rule i j t t' s _ _ ⟨.int (g i j),H,I.tok _,⟨_,rfl⟩,q⟩
theorem opB0 {f:Value→Value→Sem Value} {g:Int→Int→Bool}
    (rule:∀ (i j:Int) (t u:Tok) (s:Shared) (Q:Value→Shared→Prop) (E:Value→Shared→Prop),Q (.bool (g i j)) s→wpAny (model X.prog X.w) X.A (f (.int i t) (.int j u)) Q E s) :
    OpR X f (rI0 fun i j=>.bl (g i j)):=by
  intro pins s σ H x y v u Q I rx ry h
  obtain ⟨i,j,rfl,rfl,q⟩:=h
  obtain ⟨t,rfl⟩:=rx
  obtain ⟨t',rfl⟩:=ry
  exact rule i j t t' s _ _ ⟨.bl (g i j),H,I,rfl,q⟩
noncomputable def CPow (i j:Int):Prop:=0≤j∧j≤1000000∧i.natAbs < 2 ^ 64
theorem yb7:OpR X (binaryOp .Add) (rI0 fun i j=>.int (i + j)):=opI0 fun _ _ _ _ _ _ _ q=>add_int q
theorem YbZ:OpR X (binaryOp .Sub) (rI0 fun i j=>.int (i - j)):=opI0 fun _ _ _ _ _ _ _ q=>sub_int q
theorem yb0:OpR X (binaryOp .Mod) (rI (fun _ j=>0 < j) fun i j=>.int (i % j)):=opI fun i j _ _ _ _ _ hc q=>by
  have h1:(0:Int) < j:=hc
  exact mod_int' (by omega) (by rw [Int.fmod_eq_emod_of_nonneg i (by omega)]; exact q)
theorem Zb2:OpR X (binaryOp .Pow) (rI CPow fun i j=>.int (i ^ j.toNat)):=opI fun _ _ _ _ _ _ _ hc q=>pow_int_small hc.1 hc.2.1 hc.2.2 q
theorem unI {f:Value→Sem Value} {g:Int→Int}
    (rule:∀ (i:Int) (t:Tok) (s:Shared) (Q:Value→Shared→Prop) (E:Value→Shared→Prop),Q (.int (g i) s.toks) {s with toks:=s.toks + 1}→wpAny (model X.prog X.w) X.A (f (.int i t)) Q E s) :
    UnR X f (rU fun i=>.int (g i)):=by
  intro pins s σ H x v Q I rx h
  obtain ⟨i,rfl,q⟩:=h
  obtain ⟨t,rfl⟩:=rx
  exact rule i t s _ _ ⟨.int (g i),H,I.tok _,⟨_,rfl⟩,q⟩
theorem QbU:UnR X (unaryOp .USub) (rU fun i=>.int (-i)):=unI fun _ _ _ _ _ q=>neg_int q
end
section
variable {X:Cx} {a b c:Expr} {ta tb tc:TE} {pos:Pos}
theorem op_lt:OpR X (compareOp .Lt) (rI0 fun i j=>.bl (decide (i < j))):=opB0 fun _ _ _ _ _ _ _ q=>lt_int q
theorem op_le:OpR X (compareOp .LtE) (rI0 fun i j=>.bl (decide (i≤j))):=opB0 fun _ _ _ _ _ _ _ q=>le_int q
theorem op_gt:OpR X (compareOp .Gt) (rI0 fun i j=>.bl (decide (j < i))):=opB0 fun _ _ _ _ _ _ _ q=>gt_int q
theorem op_ge:OpR X (compareOp .GtE) (rI0 fun i j=>.bl (decide (j≤i))):=opB0 fun _ _ _ _ _ _ _ q=>ge_int q
theorem YbJ {op:CmpOp} {r:R2} (ho:OpR X (compareOp op) r) (ha:PE X a ta) (hb:PE X b tb) (hm:behindInMarks op b=false):PE X (.Compare a [op] [b] pos) (tOp r ta tb):=by
  intro pins s σ H Q I h
  exact wpAny_Compare1 (binT ha hb I h fun v u s2 x y H2 I2 rx ry q=>ho pins s2 σ H2 x y v u Q I2 rx ry q) hm
noncomputable def Zbr (t:TE):TT:=fun σ H Q=>t σ H fun x H'=>∃ k,x=.bl k∧Q k H'
theorem ZbN {op:CmpOp} {r:R2} (ho:OpR X (compareOp op) r) (ha:PE X a ta) (hb:PE X b tb) (hm:behindInMarks op b=false):PT X (.Compare a [op] [b] pos) (Zbr (tOp r ta tb)):=by
  intro pins s σ H Q I h
  refine wpAny_isTrue_Compare1 (thn (ha pins s σ H _ I h) fun v s1 ⟨x,H1,I1,r1,q1⟩=>thn (hb pins s1 σ H1 _ I1 q1) fun u s2 ⟨y,H2,I2,r2,q2⟩ =>
    thn (ho pins s2 σ H2 x y v u _ I2 r1 r2 q2) fun c s3 ⟨z,H3,I3,r3,k,e,q3⟩=>?_) hm
  subst e
  cases r3
  exact wpAny_truthy_bool ⟨H3,I3,q3⟩
noncomputable def ybs (r r':R2) (ta tb tc:TE):TE:=fun σ H Q=>ta σ H fun x H1=>tb σ H1 fun y H2=>r x y H2 fun z H3=>∃ k,z=.bl k ∧
  (if k=true then tc σ H3 fun w' H4=>r' y w' H4 Q else Q (.bl false) H3)
theorem Qbo {op op':CmpOp} {r r':R2} (ho:OpR X (compareOp op) r) (ho':OpR X (compareOp op') r') (ha:PE X a ta) (hb:PE X b tb) (hc:PE X c tc)
    (hm:lastMarks [op,op'] [b,c]=false:=by with_unfolding_all rfl):PE X (.Compare a [op,op'] [b,c] pos) (ybs r r' ta tb tc):=by
  intro pins s σ H Q I h
  refine Compare_chain (thn (ha pins s σ H _ I h) fun v s1 ⟨x,H1,I1,r1,q1⟩=>chain_link (thn (hb pins s1 σ H1 _ I1 q1) fun u s2 ⟨y,H2,I2,r2,q2⟩ =>
    thn (ho pins s2 σ H2 x y v u _ I2 r1 r2 q2) fun d s3 ⟨z,H3,I3,r3,k,e,q3⟩=>?_)) hm
  subst e
  cases r3
  refine wpAny_truthy_bool ?_
  cases k with
  | false=>exact ite_ff ⟨.bl false,H3,I3,rfl,q3⟩
  | true=>exact ite_tt (chain_last (thn (hc pins s3 σ H3 _ I3 q3) fun w' s4 ⟨z',H4,I4,r4,q4⟩=>ho' pins s4 σ H4 y z' u w' Q I4 r2 r4 q4))
theorem ybj {op op':CmpOp} {r r':R2} (ho:OpR X (compareOp op) r) (ho':OpR X (compareOp op') r') (ha:PE X a ta) (hb:PE X b tb) (hc:PE X c tc)
    (hm:lastMarks [op,op'] [b,c]=false:=by with_unfolding_all rfl):PT X (.Compare a [op,op'] [b,c] pos) (Zbr (ybs r r' ta tb tc)):=by
  intro pins s σ H Q I h
  refine isTrue_chain (thn (ha pins s σ H _ I h) fun v s1 ⟨x,H1,I1,r1,q1⟩=>test_link (thn (hb pins s1 σ H1 _ I1 q1) fun u s2 ⟨y,H2,I2,r2,q2⟩ =>
    thn (ho pins s2 σ H2 x y v u _ I2 r1 r2 q2) fun d s3 ⟨z,H3,I3,r3,k,e,q3⟩=>?_)) hm
  subst e
  cases r3
  refine wpAny_truthy_bool ?_
  cases k with
  | false =>
    obtain ⟨k',e',q'⟩:=q3
    cases e'
    exact ite_ff ⟨H3,I3,q'⟩
  | true =>
    refine ite_tt (test_last (thn (hc pins s3 σ H3 _ I3 q3) fun w' s4 ⟨z',H4,I4,r4,q4⟩=>thn (ho' pins s4 σ H4 y z' u w' _ I4 r2 r4 q4) fun d' s5 ⟨z2,H5,I5,r5,k2,e2,q5⟩=>?_))
    subst e2
    cases r5
    exact wpAny_truthy_bool ⟨H5,I5,q5⟩
theorem qaE:(sizeLine:Nat) < 2 ^ 63:=by rw [sizeLine_eq]; decide
theorem Qbx {x:V} {us:List Value} (r:Vals [x] us):∃ u,us=[u]∧RelV x u:=by
  cases r with
  | cons r1 r2=>cases r2; exact ⟨_,rfl,r1⟩
theorem ZbP {x y:V} {us:List Value} (r:Vals [x,y] us):∃ u w',us=[u,w']∧RelV x u∧RelV y w':=by
  cases r with
  | cons r1 r2 =>
    cases r2 with
    | cons r3 r4=>cases r4; exact ⟨_,_,rfl,r1,r3⟩
theorem yba (hc:X.calm=true):CallR X (.builtin "max") (fun xs H Q=>∃ i j,xs=[.int i,.int j]∧Q (.int (if j > i then j else i)) H):=by
  intro pins s σ H xs us Q I r h
  obtain ⟨i,j,rfl,q⟩:=h
  obtain ⟨u,w',rfl,⟨t,rfl⟩,⟨t',rfl⟩⟩:=ZbP r
  refine max_two_ints (I.ok.hd hc) fun h' tk k=>⟨_,H,I.kept k,?_,q⟩
  by_cases hj:j > i
  · rw [if_pos hj,if_pos hj]; exact ⟨_,rfl⟩
  · rw [if_neg hj,if_neg hj]; exact ⟨_,rfl⟩
theorem Ya8 (hc:X.calm=true):CallR X (.builtin "min") (fun xs H Q=>∃ i j,xs=[.int i,.int j]∧Q (.int (if j < i then j else i)) H):=by
  intro pins s σ H xs us Q I r h
  obtain ⟨i,j,rfl,q⟩:=h
  obtain ⟨u,w',rfl,⟨t,rfl⟩,⟨t',rfl⟩⟩:=ZbP r
  refine min_two_ints (I.ok.hd hc) fun h' tk k=>⟨_,H,I.kept k,?_,q⟩
  by_cases hj:j < i
  · rw [if_pos hj,if_pos hj]; exact ⟨_,rfl⟩
  · rw [if_neg hj,if_neg hj]; exact ⟨_,rfl⟩
end
structure ObjM (h:Heap) (x dx C:Addr) (mA:Str→Option Value):Prop where
  obj:h.get? x=some (PySem.W.instObj C dx)
  ns:h.Ns1 dx mA
  ne:dx≠x
theorem ybb {h:Heap} {dx:Addr} {mA:Str→Option Value} (n:h.Ns1 dx mA):∃ od,h.get? dx=some od∧∀ name,PySem.W.lookIn name od=some (mA name):=by
  obtain ⟨o,es,ep,ho,hd,hk,_,hm⟩:=n
  refine ⟨o,ho,fun name=>?_⟩
  have e:=hm name
  unfold nsFind findBy at e
  rw [← Array.find?_toList] at e
  unfold PySem.W.lookIn
  rw [hd]
  dsimp only
  split
  · rename_i y q
    rw [q] at e
    exact congrArg some e
  · rename_i q
    rw [q] at e
    have a:es.toList.any (·.refKey)=false:=by
      rw [List.any_eq_false]
      intro y hy
      obtain ⟨z,t,hkey⟩:=hk y (Array.mem_toList_iff.mp hy)
      simp [DictEntry.refKey,hkey]
    have a':¬ es.toList.any (·.refKey)=true:=by rw [a]; exact Bool.false_ne_true
    rw [if_neg a']
    exact congrArg some e
theorem ObjM.look {h:Heap} {x dx C:Addr} {mA:Str→Option Value} (I:ObjM h x dx C mA):∃ od,PySem.W.InstAt h x (PySem.W.instObj C dx) C (some od)∧∀ name,PySem.W.lookIn name od=some (mA name) :=
  let ⟨od,ho,hl⟩:=ybb I.ns
  ⟨od,⟨I.obj,rfl,rfl,ho⟩,hl⟩
section
variable {prog:Program} {w:World} {A:Around} {E:Value→Shared→Prop} {s:Shared} {K:PySem.W.Frag} {x dx C f:Addr} {mA:Str→Option Value} {name:Str} {v:Value}
theorem ZbJ {expr:Bool} {Q:Value→Shared→Prop} (X:K.In s.heap) (I:ObjM s.heap x dx C mA) (hg:PySem.W.plainGet K C name=true) (hh:PySem.W.hasDictIn K C=true)
    (ha:PySem.W.findIn K (.ref C) name=some none) (hv:mA name=some v) (hv':PySem.W.handedIn v=true) (h:Q v {s with toks:=s.toks + 1}) :
    wpAny (model prog w) A (getAttr (.ref x) name expr) Q E s:=by
  obtain ⟨od,J,hl⟩:=I.look
  exact PySem.W.get_value X J (PySem.W.plainGet_of hg).1 (PySem.W.findObj_own hh ha rfl (by rw [hl,hv])) hv' h
theorem qby {ns:List Str} {Q:Unit→Shared→Prop} (X:K.In s.heap) (I:ObjM s.heap x dx C mA)
    (hs:PySem.W.findIn K (.ref C) "__setattr__"=some (some (.builtin "object.__setattr__"))) (hp:PySem.W.plainOver K C=true) (ht:PySem.W.takerIn K C name=some none) (hh:PySem.W.hasDictIn K C=true)
    (hw:PySem.Within mA ns) (hsz:ns.length≤sizeLine)
    (h:∀ h',ObjM h' x dx C (fun y=>if y=name then some v else mA y)→Heap.SameBut dx s.heap h'→Q () {s with heap:=h',toks:=s.toks + 2}) :
    wpAny (model prog w) A (setAttr (.ref x) name v) Q E s:=by
  obtain ⟨od,J,hl⟩:=I.look
  refine PySem.W.set_plain X J hs (PySem.W.osa_open (s:={s with toks:=s.toks + 1}) (r:=none) X J hp ht fun b=>?_)
  obtain ⟨cd,hc,hd'⟩:=PySem.W.any_some hh
  have hx:s.heap.get? x=some ⟨.ref C,some dx,.plain,#[]⟩:=I.obj
  refine wpAny_bind (wpAny_pure (wpAny_bind (wpAny_bind (wpAny_loadPart hx (wpAny_bind (PySem.W.Looks.here (s:={s with toks:=s.toks + 1}) (PySem.W.looks_clsIn X hc) ?_))))))
  rw [hd']
  refine wpAny_pure (a:=some dx) (wpAny_bind (wpAny_pure (wpAny_bind ?_)))
  refine wpAny_nsSet1 (s:={s with toks:=s.toks + 1}) I.ns fun h' hn2 hs2=>?_
  obtain ⟨oD,esD,epD,hoD,hdD,hcD⟩:=hn2.count (PySem.Within.cons name v hw)
  refine wpAny_bind (wpAny_lookBehind hoD (by rw [hdD]; exact pastItsLine_dict (Nat.le_trans hcD (by rw [List.length_cons]; omega))) ?_)
  exact wpAny_pure (h _ ⟨(hs2.2 _ (Ne.symm I.ne)).trans I.obj,hn2,I.ne⟩ hs2)
theorem Zbj {R:Result→Shared→Prop} {vs:List Value} {kw:List (Str×Value)} (X:K.In s.heap) (hm:PySem.W.makesIn K C=true)
    (hi:PySem.W.findIn K (.ref C) "__init__"=some (some (.ref f))) (hf:PySem.W.typeIn K (.ref f)=some (.type "function"))
    (h:codeAny (model prog w) (A.under (.builtin "type.__call__" ⟨.ref C::vs,kw⟩)) (.call (.ref f) ⟨.ref (s.heap.objs.size + 1)::vs,kw⟩) (PySem.W.InitBack (s.heap.objs.size + 1) R)
      {s with heap:=(s.heap.push PySem.W.emptyDict).push (PySem.W.instObj C s.heap.objs.size)}) :
    codeAny (model prog w) A (.call (.ref C) ⟨vs,kw⟩) R s:=by
  obtain ⟨hh,g,d,t,os⟩:=s
  exact PySem.W.make_core (PySem.W.makes_of X hm) (PySem.W.looks_findIn X hi) (fun self=>PySem.W.bind_fn X self hf) (.inl rfl) h
theorem ybd {R:Result→Shared→Prop} (X:K.In s.heap) (hm:PySem.W.makesIn K C=true)
    (hi:PySem.W.findIn K (.ref C) "__init__"=some (some (.builtin "object.__init__")))
    (hb:∀ self,PySem.W.Looks (model prog w) s.heap (bindSpecial (.builtin "object.__init__") self) (.builtin "object.__init__",[self]))
    (h:codeAny (model prog w) (A.under (.builtin "type.__call__" ⟨[.ref C],[]⟩)) (.call (.builtin "object.__init__") ⟨[.ref (s.heap.objs.size + 1)],[]⟩) (PySem.W.InitBack (s.heap.objs.size + 1) R)
      {s with heap:=(s.heap.push PySem.W.emptyDict).push (PySem.W.instObj C s.heap.objs.size)}) :
    codeAny (model prog w) A (.call (.ref C) ⟨[],[]⟩) R s:=by
  obtain ⟨hh,g,d,t,os⟩:=s
  exact PySem.W.make_core (PySem.W.makes_of X hm) (PySem.W.looks_findIn X hi) hb (.inr ⟨rfl,rfl⟩) h
end
noncomputable def YH (f:Str) (v:V):List (Str×V)→List (Str×V)
  | []=>[(f,v)]
  | (g,x)::r=>if g=f then (g,v)::r else (g,x)::YH f v r
theorem Y3 (f g:Str) (v:V):∀ fs:List (Str×V),(YH f v fs).lookup g=if g=f then some v else fs.lookup g
  | []=>by
    show List.lookup g [(f,v)]=_
    by_cases h:g=f
    · have hb:(g == f)=true:=beq_iff_eq.mpr h
      simp only [List.lookup,hb,if_pos h]
    · have hb:(g == f)=false:=beq_eq_false_iff_ne.mpr h
      simp only [List.lookup,hb,if_neg h]
  | (k,x)::r=>by
    have ih:=Y3 f g v r
    rw [show YH f v ((k,x)::r)=(if k=f then (k,v)::r else (k,x)::YH f v r) from rfl]
    by_cases hk:k=f
    · rw [if_pos hk]
      by_cases h:g=k
      · have hb:(g == k)=true:=beq_iff_eq.mpr h
        simp only [List.lookup,hb,if_pos (h.trans hk)]
      · have hb:(g == k)=false:=beq_eq_false_iff_ne.mpr h
        simp only [List.lookup,hb,if_neg (fun e:g=f=>h (e.trans hk.symm))]
    · rw [if_neg hk]
      by_cases h:g=k
      · have hb:(g == k)=true:=beq_iff_eq.mpr h
        simp only [List.lookup,hb,if_neg (fun e:g=f=>hk (h.symm.trans e))]
      · have hb:(g == k)=false:=beq_eq_false_iff_ne.mpr h
        simp only [List.lookup,hb]
        exact ih
theorem qX (f:Str) (v:V):∀ fs:List (Str×V),f∈(YH f v fs).map (·.1)∧∀ g,g∈fs.map (·.1)→g∈(YH f v fs).map (·.1)
  | []=>⟨by simp [YH],fun g h=>by simp at h⟩
  | (k,x)::r=>by
    obtain ⟨i1,i2⟩:=qX f v r
    rw [show YH f v ((k,x)::r)=(if k=f then (k,v)::r else (k,x)::YH f v r) from rfl]
    by_cases hk:k=f
    · rw [if_pos hk]
      subst hk
      exact ⟨by simp,fun g h=>by simpa using h⟩
    · rw [if_neg hk]
      refine ⟨?_,fun g h=>?_⟩
      · rw [List.map_cons]
        exact List.mem_cons_of_mem _ i1
      · rw [List.map_cons] at h ⊢
        rcases List.mem_cons.mp h with e | e
        · exact List.mem_cons.mpr (.inl e)
        · exact List.mem_cons_of_mem _ (i2 g e)
theorem Z4 (f:Str) (v:V):∀ fs:List (Str×V),(YH f v fs).length≤fs.length + 1
  | []=>by simp [YH]
  | (k,x)::r=>by
    have ih:=Z4 f v r
    rw [show YH f v ((k,x)::r)=(if k=f then (k,v)::r else (k,x)::YH f v r) from rfl]
    by_cases hk:k=f
    · rw [if_pos hk,List.length_cons,List.length_cons]; omega
    · rw [if_neg hk,List.length_cons,List.length_cons]; omega
theorem RelO.some_of {v:V} {o:Option Value} (r:RelO (some v) o):∃ u,o=some u∧RelV v u:=by
  cases o with
  | none=>exact (show False from r).elim
  | some u=>exact ⟨u,rfl,r⟩
theorem qbb {v:V} {u:Value} (r:RelV v u):PySem.W.handedIn u=true:=by
  cases v with
  | non=>cases (show u=Value.none from r); rfl
  | bl b=>cases (show u=Value.bool b from r); rfl
  | int i=>obtain ⟨t,e⟩:=(show ∃ t,u=Value.int i t from r); cases e; rfl
  | str x=>obtain ⟨t,e⟩:=(show ∃ t,u=Value.str x t from r); cases e; rfl
  | byt b=>obtain ⟨t,e⟩:=(show ∃ t,u=Value.bytes b t from r); cases e; rfl
  | flt b=>obtain ⟨t,e⟩:=(show ∃ t,u=Value.float b t from r); cases e; rfl
  | ref a=>cases (show u=Value.ref a from r); rfl
  | ty n=>cases (show u=Value.type n from r); rfl
section
variable {P:Program} {w:World} {H H':Hp} {h h':Heap} {a C dx:Addr} {fs fs':List (Str×V)}
theorem qaB (hok:HOk P w H h) (e:H a=some (.ins C dx fs)):∃ mA,ObjM h a dx C mA∧(∀ f,RelO (fs.lookup f) (mA f))∧PySem.Within mA (fs.map (·.1))∧fs.length≤1000∧H dx=some (.own a):=by
  obtain ⟨d,z,ne,ob,mA,n,r,q⟩:=(show ObjOk P w H h a (.ins C dx fs) from hok a _ e)
  exact ⟨mA,⟨ob,n,ne⟩,r,q,z,d⟩
end
structure Cls (K:PySem.W.Frag) (C:Addr):Prop where
  pg:PySem.W.plainGet K C Str.empty=true
  hd:PySem.W.hasDictIn K C=true
  po:PySem.W.plainOver K C=true
  sa:PySem.W.findIn K (.ref C) "__setattr__"=some (some (.builtin "object.__setattr__"))
theorem Cls.get {K:PySem.W.Frag} {C:Addr} (c:Cls K C) (f:Str):PySem.W.plainGet K C f=true:=c.pg
noncomputable def NoAttr (K:PySem.W.Frag) (C:Addr) (f:Str):Prop:=PySem.W.findIn K (.ref C) f=some none
theorem NoAttr.taker {K:PySem.W.Frag} {C:Addr} {f:Str} (n:NoAttr K C f):PySem.W.takerIn K C f=some none:=by
  unfold PySem.W.takerIn
  rw [show PySem.W.findIn K (.ref C) f=some none from n]
  rfl
structure Meth (K:PySem.W.Frag) (C:Addr) (m:Str) (f:Addr):Prop where
  at_:PySem.W.findIn K (.ref C) m=some (some (.ref f))
  fn:PySem.W.isFn K (.ref f)=true
  kp:PySem.W.keepIn K (.ref f)=true
section
variable {X:Cx} {pins:List (Addr×Obj)} {σ:St} {H:Hp} {s:Shared} {a C dx:Addr} {fs:List (Str×V)} {f:Str} {v:V} {A:Around} {E:Value→Shared→Prop}
theorem yaU {b:Bool} {Q:Value→Shared→Prop} (I:Inv X pins σ H s) (e:H a=some (.ins C dx fs)) (c:Cls X.K C) (n:NoAttr X.K C f) (l:fs.lookup f=some v)
    (h:∀ u s',Inv X pins σ H s'→RelV v u→Q u s'):wpAny (model X.prog X.w) A (getAttr (.ref a) f b) Q E s:=by
  obtain ⟨mA,O,r,_,_,_⟩:=qaB I.hok e
  obtain ⟨u,hu,ru⟩:=RelO.some_of (v:=v) (o:=mA f) (by rw [← l]; exact r f)
  exact ZbJ I.kIn O (c.get f) c.hd n hu (qbb ru) (h u _ (I.tok _) ru)
theorem QaU {y:V} {u:Value} {Q:Unit→Shared→Prop} (I:Inv X pins σ H s) (e:H a=some (.ins C dx fs)) (c:Cls X.K C) (n:NoAttr X.K C f) (hl:fs.length < 1000) (ry:RelV y u)
    (h:∀ s',Inv X pins σ (upd H a (.ins C dx (YH f y fs))) s'→Q () s'):wpAny (model X.prog X.w) A (setAttr (.ref a) f u) Q E s:=by
  obtain ⟨mA,O,r,wi,_,ho⟩:=qaB I.hok e
  have hz:(fs.map (·.1)).length≤sizeLine:=by rw [List.length_map,sizeLine_eq]; omega
  refine qby I.kIn O c.sa c.po n.taker c.hd wi hz fun h' O' sb=>h _ ?_
  have hd:∃ o,h'.get? dx=some o:=let ⟨o,_,_,e',_⟩:=O'.ns; ⟨o,e'⟩
  refine I.write (x:=a) (e:=dx) (by rw [e]; exact True.intro) (.inr ho) (fun b q hb z=>(sb.2 b hb).trans z) hd ?_
  refine ⟨by rw [Zb O.ne]; exact ho,?_,O.ne,O'.obj,_,O'.ns,fun g=>?_,fun g hg=>?_⟩
  · have:=Z4 f y fs; omega
  · show RelO ((YH f y fs).lookup g) (if g=f then some u else mA g)
    rw [Y3]
    by_cases q:g=f
    · rw [if_pos q,if_pos q]; exact ry
    · rw [if_neg q,if_neg q]; exact r g
  · by_cases q:g=f
    · rw [q]; exact (qX f y fs).1
    · refine (qX f y fs).2 g (wi g fun z=>hg ?_)
      show (if g=f then some u else mA g)=none
      rw [if_neg q]; exact z
theorem Inv.made (I:Inv X pins σ H s):Inv X pins σ (upd (upd H s.heap.objs.size (.own (s.heap.objs.size + 1))) (s.heap.objs.size + 1) (.ins C s.heap.objs.size []))
    {s with heap:=(s.heap.push PySem.W.emptyDict).push (PySem.W.instObj C s.heap.objs.size)}:=by
  have e1:(s.heap.push PySem.W.emptyDict).get? s.heap.objs.size=some PySem.W.emptyDict:=Heap.get?_push_size s.heap rfl
  have e2:((s.heap.push PySem.W.emptyDict).push (PySem.W.instObj C s.heap.objs.size)).get? (s.heap.objs.size + 1)=some (PySem.W.instObj C s.heap.objs.size):=by
    have:=Heap.get?_push_size (s.heap.push PySem.W.emptyDict) (o:=PySem.W.instObj C s.heap.objs.size) rfl
    rwa [Heap.size_push] at this
  have e3:(s.heap.push PySem.W.emptyDict).Ns s.heap.objs.size (fun _=>none):=⟨PySem.W.emptyDict,#[],_,e1,rfl,(fun e he=>absurd he (by simp)),fun _=>rfl⟩
  have I1:=I.laid (a:=s.heap.objs.size) (o:=.own (s.heap.objs.size + 1)) (h':=s.heap.push PySem.W.emptyDict) (t':=s.toks) (fun b u q=>Heap.get?_push_of_some _ q) (Nat.le_refl _) ⟨_,e1⟩
  refine I1.laid (a:=s.heap.objs.size + 1) (o:=.ins C s.heap.objs.size []) (t':=s.toks) (fun b u q=>Heap.get?_push_of_some _ q) (Nat.le_of_eq (Heap.size_push _ _)) ?_
  have ne:s.heap.objs.size≠s.heap.objs.size + 1:=Nat.ne_of_lt (Nat.lt_succ_self _)
  refine ⟨by rw [Zb ne,yd],Nat.zero_le _,ne,e2,fun _=>none,(Heap.Ns1.of_empty e3).at fun o q=>Heap.get?_push_of_some _ q,fun _=>True.intro,fun y hy=>absurd rfl hy⟩
theorem ZbL {prog:Program} {w:World} {env:Env} {e:Expr} {f:Str} {pos:Pos} {s:Shared} {Q:Value→Shared→Prop} (hb:attributeBase e f env (eval e env)=eval e env)
    (h:wpAny (model prog w) A (eval e env) (fun o s₁=>wpAny (model prog w) A (getAttr o f true) Q E s₁) E s):wpAny (model prog w) A (eval (.Attribute e f pos) env) Q E s :=
  Attribute_any_ h (by rw [arm_eval_Attribute,hb])
end
noncomputable def tFld (K:PySem.W.Frag) (ta:TE) (f:Str):TE:=fun σ H Q=>ta σ H fun x H1=>∃ a C dx fs v,x=.ref a∧H1 a=some (.ins C dx fs)∧Cls K C∧NoAttr K C f∧fs.lookup f=some v∧Q v H1
noncomputable def sFld (K:PySem.W.Frag) (ta tv:TE) (f:Str):TS:=fun D σ H=>tv σ H fun y H1=>ta σ H1 fun x H2=>∃ a C dx fs,x=.ref a∧H2 a=some (.ins C dx fs)∧Cls K C∧NoAttr K C f∧fs.length < 1000 ∧
  D.nx σ (upd H2 a (.ins C dx (YH f y fs)))
section
variable {X:Cx} {o e value:Expr} {f:Str} {pos pos' tpos:Pos} {ta tv:TE}
theorem zbZ (he:PE X e ta) (hb:attributeBase e f X.env (eval e X.env)=eval e X.env):PE X (.Attribute e f pos) (tFld X.K ta f):=by
  intro pins s σ H Q I h
  refine ZbL hb (thn (he pins s σ H _ I h) fun u s1 ⟨x,H1,I1,rx,a,C,dx,fs,v,ex,ea,c,n,l,q⟩=>?_)
  subst ex
  obtain rfl:u=Value.ref a:=rx
  exact yaU I1 ea c n l fun u' s2 I2 ru=>⟨v,H1,I2,ru,q⟩
theorem qb3 (ha:PE X o ta) (hv:PE X value tv) (hs:swapsWith value (some (.Attribute o f pos')) pos.line X.env=pure false):PS X (.Assign [.Attribute o f pos'] value pos) (sFld X.K ta tv f):=by
  intro pins s σ H D I h
  refine plainObj_wpAny_Assign_Attribute (thn (hv pins s σ H _ I h) fun u s1 ⟨y,H1,I1,ry,q⟩=>thn (ha pins s1 σ H1 _ I1 q) fun ov s2 ⟨x,H2,I2,rx,a,C,dx,fs,ex,ea,c,n,l,q2⟩=>?_) hs
  subst ex
  obtain rfl:ov=Value.ref a:=rx
  exact QaU I2 ea c n l ry fun s3 I3=>⟨σ,_,I3,q2⟩
end
section
variable {X:Cx} {pins:List (Addr×Obj)} {σ:St} {H:Hp} {s:Shared} {A:Around} {E:Value→Shared→Prop} {Q:Value→Shared→Prop} {c:Value} {b:Bool}
inductive TyOf (K:PySem.W.Frag) (H:Hp):V→Value→Prop where
  | non:TyOf K H .non (.type "NoneType")
  | bl (x:Bool):TyOf K H (.bl x) (.type "bool")
  | int (i:Int):TyOf K H (.int i) (.type "int")
  | str (x:Str):TyOf K H (.str x) (.type "str")
  | flt (x:UInt64):TyOf K H (.flt x) (.type "float")
  | lst {a:Addr} {xs:List V} (e:H a=some (.lst xs)):TyOf K H (.ref a) (.type "list")
  | frz {a:Addr} {o:Obj} {xs:List V} (e:H a=some (.frz o (.lst xs))):TyOf K H (.ref a) (.type "list")
  | tup {a:Addr} {xs:List V} (e:H a=some (.tup xs)):TyOf K H (.ref a) (.type "tuple")
  | dK {a:Addr} {kvs:List (Key×V)} (e:H a=some (.dK kvs)):TyOf K H (.ref a) (.type "dict")
  | dT {a:Addr} {kvs:List (List Key×V)} (e:H a=some (.dT kvs)):TyOf K H (.ref a) (.type "dict")
  | ins {a C dx:Addr} {fs:List (Str×V)} (e:H a=some (.ins C dx fs)) (cl:Cls K C) (ha:PySem.W.findIn K (.ref C) "__class__"=some (some (.builtin "object.__class__")))
      (hn:PySem.W.specialIn K (.builtin "object.__class__") "__get__"=some (some (.builtin "getset_descriptor.__get__"))) (htk:PySem.W.takesIn K (.builtin "object.__class__")=some true)
      (hm:PySem.W.mroIn K C (.type "object")=some true):TyOf K H (.ref a) (.ref C)
theorem Za9 {x:V} {u t:Value} (I:Inv X pins σ H s) (rx:RelV x u) (ty:TyOf X.K H x t) (e:PySem.W.kitOne X.K t c=some b) (h:∀ tk,Q (.bool b) {s with toks:=tk}) :
    wpAny (model X.prog X.w) A (call (.builtin "isinstance") [u,c]) Q E s:=by
  cases ty with
  | non=>cases (show u=Value.none from rx); exact PySem.W.kia_one PySem.W.kitx_none I.kIn True.intro e (fun z=>nomatch z) h
  | bl y=>cases (show u=Value.bool y from rx); exact PySem.W.kia_one PySem.W.kitx_bool I.kIn True.intro e (fun z=>nomatch z) h
  | int i=>obtain ⟨t,q⟩:=(show ∃ t,u=Value.int i t from rx); cases q; exact PySem.W.kia_one PySem.W.kitx_int I.kIn True.intro e (fun z=>nomatch z) h
  | str y=>obtain ⟨t,q⟩:=(show ∃ t,u=Value.str y t from rx); cases q; exact PySem.W.kia_one PySem.W.kitx_str I.kIn True.intro e (fun z=>nomatch z) h
  | flt y=>obtain ⟨t,q⟩:=(show ∃ t,u=Value.float y t from rx); cases q; exact PySem.W.kia_one PySem.W.kitx_float I.kIn True.intro e (fun z=>nomatch z) h
  | @lst a xs ea =>
    cases (show u=Value.ref a from rx)
    obtain ⟨_,_,n,_,h1⟩:=(show ObjOk X.prog X.w H s.heap a (.lst xs) from I.hok a _ ea)
    exact PySem.W.kia_one PySem.W.kitx_list I.kIn ⟨_,h1,rfl⟩ e (fun z=>nomatch z) h
  | @frz a ob xs ea =>
    cases (show u=Value.ref a from rx)
    obtain ⟨_,_,_,n,_,h1⟩:=(show ObjOk X.prog X.w H s.heap a (.frz ob (.lst xs)) from I.hok a _ ea)
    exact PySem.W.kia_one PySem.W.kitx_list I.kIn ⟨_,h1,rfl⟩ e (fun z=>nomatch z) h
  | @tup a xs ea =>
    cases (show u=Value.ref a from rx)
    obtain ⟨_,_,_,p⟩:=(show ObjOk X.prog X.w H s.heap a (.tup xs) from I.hok a _ ea)
    obtain ⟨o,h1,h2,_⟩:=p
    exact PySem.W.kia_one PySem.W.kitx_tuple I.kIn ⟨o,h1,h2⟩ e (fun z=>nomatch z) h
  | @dK a kvs ea =>
    cases (show u=Value.ref a from rx)
    obtain ⟨_,_,vs,_,p⟩:=(show ObjOk X.prog X.w H s.heap a (.dK kvs) from I.hok a _ ea)
    obtain ⟨o,es,ep,h1,h2,_⟩:=p
    exact PySem.W.kia_one PySem.W.kitx_dict I.kIn ⟨o,h1,h2.1⟩ e (fun z=>nomatch z) h
  | @dT a kvs ea =>
    cases (show u=Value.ref a from rx)
    obtain ⟨_,_,xs,_,o,es,ep,h1,h2,_⟩:=(show ObjOk X.prog X.w H s.heap a (.dT kvs) from I.hok a _ ea)
    exact PySem.W.kia_one PySem.W.kitx_dict I.kIn ⟨o,h1,h2.1⟩ e (fun z=>nomatch z) h
  | @ins a C dx fs ea cl ha hn htk hm =>
    cases (show u=Value.ref a from rx)
    obtain ⟨mA,O,_⟩:=qaB I.hok ea
    obtain ⟨od,J,_⟩:=O.look
    exact PySem.W.kia_one (PySem.W.kitx_own (cl.get _) cl.hd ha hn htk hm) I.kIn J e (fun z=>nomatch z) h
end
structure Room (k:Nat) (A:Around):Prop where
  hd:A.handled=none
  dp:A.depth + 3 * k + 5 < recursionLimit
  un:A.units + 16 * k + 200 < cLine
theorem Room.mono {j k:Nat} {A:Around} (r:Room k A) (h:j≤k):Room j A:=⟨r.hd,by have:=r.dp; omega,by have:=r.un; omega⟩
theorem Room.deeper {k:Nat} {A:Around} (r:Room (k + 1) A) (env:Env):Room k (A.deeper env) :=
  ⟨r.hd,by have:=r.dp; show A.depth + 1 + 3 * k + 5 < _; omega,by have:=r.un; show A.units + 3 + 16 * k + 200 < _; omega⟩
theorem Ya0 {A:Around} {C:Addr} {us:List Value} {kw:List (Str×Value)}:(A.under (.builtin "type.__call__" ⟨.ref C::us,kw⟩)).depth=A.depth + 1:=by
  first | rfl | simp [Around.under,Code.weight,Code.isCreation,Code.isGuard,Code.isCaller,Code.frames,Code.isFrame,guardIds]
theorem yaY {A:Around} {C:Addr} {us:List Value} {kw:List (Str×Value)}:(A.under (.builtin "type.__call__" ⟨.ref C::us,kw⟩)).units=A.units + 1:=by
  first | rfl | simp [Around.under,Code.cUnits,Code.frames,Code.isFrame]
theorem Room.make {k:Nat} {A:Around} (r:Room (k + 1) A) (C:Addr) (us:List Value) (kw:List (Str×Value)):Room k (A.under (.builtin "type.__call__" ⟨.ref C::us,kw⟩)) :=
  ⟨r.hd,by have:=r.dp; rw [Ya0]; omega,by have:=r.un; rw [yaY]; omega⟩
theorem Room.depth {k:Nat} {A:Around} (r:Room k A):A.depth < recursionLimit:=by have:=r.dp; omega
noncomputable def tNil:TA:=fun _ H Q=>Q [] H
noncomputable def tCons (ta:TE) (tr:TA):TA:=fun σ H Q=>ta σ H fun x H1=>tr σ H1 fun xs H2=>Q (x::xs) H2
section
variable {X:Cx} {e:Expr} {es:List Expr} {te:TE} {t:TA} {pos:Pos}
theorem QaE:PA X [] tNil:=fun _ _ _ _ H Q I h=>Calls.spliced_nil ⟨[],H,I,.nil,h⟩
theorem zX (ha:PE X e te) (hr:PA X es t) (hs:starEach (e::es) X.env=(false,eval e X.env)::starEach es X.env:=by rfl):PA X (e::es) (tCons te t):=by
  intro pos pins s σ H Q I h
  rw [hs]
  show wpAny _ _ (spliced ((false,eval e X.env)::backTo pos (starEach es X.env))) _ _ s
  refine Calls.spliced_cons (thn (ha pins s σ H _ I h) fun u s1 ⟨x,H1,I1,r1,q1⟩=>?_)
  exact thn (hr pos pins s1 σ H1 _ I1 q1) fun us s2 ⟨xs,H2,I2,r2,q2⟩=>⟨x::xs,H2,I2,.cons r1 r2,q2⟩
noncomputable def tTup (t:TA):TE:=fun σ H Q=>t σ H fun xs H1=>xs.length≤sizeLine∧∀ p,H1 p=none→Q (.ref p) (upd H1 p (.tup xs))
noncomputable def tLst (t:TA):TE:=fun σ H Q=>t σ H fun xs H1=>xs.length≤sizeLine∧∀ p,H1 p=none→Q (.ref p) (upd H1 p (.lst xs))
theorem yb1 {x1} (h:PA X es t):PE X (.Tuple es x1 pos) (tTup t):=by
  intro pins s σ H Q I hq
  refine wpAny_Tuple_spliced (thn (h pos pins s σ H _ I hq) fun us s1 ⟨xs,H1,I1,r,z,q⟩=>⟨by rw [← r.length]; exact z,?_⟩)
  have hf:H1 s1.heap.objs.size=none:=I1.hok.fresh (Nat.le_refl _)
  refine ⟨.ref s1.heap.objs.size,upd H1 s1.heap.objs.size (.tup xs),I1.laid (t':=s1.toks) (fun b u e=>Heap.get?_push_of_some _ e) (Nat.le_refl _) ?_,rfl,q _ hf⟩
  exact ⟨z,us,r,⟨_,Heap.get?_push_size _ rfl,rfl,_,rfl⟩⟩
theorem YbV (h:PA X es t):PE X (.List es pos) (tLst t):=by
  intro pins s σ H Q I hq
  refine wpAny_List_spliced (thn (h pos pins s σ H _ I hq) fun us s1 ⟨xs,H1,I1,r,z,q⟩=>⟨by rw [← r.length]; exact z,?_⟩)
  have hf:H1 s1.heap.objs.size=none:=I1.hok.fresh (Nat.le_refl _)
  refine ⟨.ref s1.heap.objs.size,upd H1 s1.heap.objs.size (.lst xs),I1.laid (t':=s1.toks) (fun b u e=>Heap.get?_push_of_some _ e) (Nat.le_refl _) ?_,rfl,q _ hf⟩
  exact ⟨z,us,0,r,Heap.get?_push_size _ rfl⟩
end
noncomputable abbrev Sp:=List V→Hp→VK→XK→Prop
noncomputable abbrev CXT:=List Env→Hp→Shared→XK→Value→Shared→Prop
structure Env0 (P:Program) (w:World) (K:PySem.W.Frag) (mg:Str→Option Value) (base:Heap) (A:Around) (outer:List Env) (s:Shared) (H:Hp):Prop where
  frames:A.frames=some outer
  mod:Mod K mg base
  bs:∀ b o,base.get? b=some o→s.heap.get? b=some o∧H b=none
  bsz:base.objs.size≤s.heap.objs.size
  funs:s.heap.FunFrames base outer
  frf:∀ b∈frs outer,H b=none
  hok:HOk P w H s.heap
  bare:AllBare s.gens
noncomputable def CE (outer:List Env) (P:Program) (w:World) (H:Hp) (s:Shared) (Q:VK) (u:Value) (s':Shared):Prop :=
  ∃ v H',s'.os=s.os∧AllBare s'.gens∧Un (frs outer) [] H H' s.heap s'.heap∧HOk P w H' s'.heap∧RelV v u∧Q v H'
noncomputable def CR (CX:CXT) (outer:List Env) (P:Program) (w:World) (H:Hp) (s:Shared) (Q:VK) (E:XK) (r:Result) (s':Shared):Prop :=
  match r with
  | .ok (.ret u)=>CE outer P w H s Q u s'
  | .ok _=>False
  | .error e=>CX outer H s E e s'
structure FnOk (P:Program) (w:World) (K:PySem.W.Frag) (mg:Str→Option Value) (base:Heap) (CX:CXT) (k:Nat) (f:Addr) (fd:FuncData) (ps:List Str) (sp:Sp):Prop where
  len:∀ vs H Q E,sp vs H Q E→vs.length=ps.length
  run:∀ (A:Around) (outer:List Env) (s:Shared) (H:Hp) (args:Args) (us:List Value) (vs:List V) (Q:VK) (E:XK),Room k A→Env0 P w K mg base A outer s H→BindsTo s fd args (ps.zip us)→Vals vs us→sp vs H Q E →
    codeAny (model P w) A (.call (.ref f) args) (CR CX outer P w H s Q E) s
theorem FnOk.imp {P:Program} {w:World} {K:PySem.W.Frag} {mg:Str→Option Value} {base:Heap} {CX:CXT} {k:Nat} {f:Addr} {fd:FuncData} {ps:List Str} {sp sp':Sp} (F:FnOk P w K mg base CX k f fd ps sp)
    (h:∀ vs H Q E,sp' vs H Q E→sp vs H Q E):FnOk P w K mg base CX k f fd ps sp' :=
  ⟨fun vs H Q E q=>F.len vs H Q E (h _ _ _ _ q),fun A outer s H args us vs Q E hr he hb hv hs=>F.run A outer s H args us vs Q E hr he hb hv (h _ _ _ _ hs)⟩
theorem Env0.make {P:Program} {w:World} {K:PySem.W.Frag} {mg:Str→Option Value} {base:Heap} {A:Around} {outer:List Env} {s:Shared} {H:Hp} (e:Env0 P w K mg base A outer s H) (C:Addr) (us:List Value) (kw:List (Str×Value)) :
    Env0 P w K mg base (A.under (.builtin "type.__call__" ⟨.ref C::us,kw⟩)) outer s H:=⟨by first | exact e.frames | (simpa [Around.under,Code.envs,Code.isFrame,pushEnvs] using e.frames),e.mod,e.bs,e.bsz,e.funs,e.frf,e.hok,e.bare⟩
section
variable {X:Cx} {pins:List (Addr×Obj)} {σ:St} {H:Hp} {s s':Shared}
theorem Inv.env0 (I:Inv X pins σ H s):Env0 X.prog X.w X.K X.mg X.base X.A X.stack s H :=
  ⟨I.ok.frames,I.ok.mod,I.bs,Nat.le_trans I.ok.bsz I.sz,I.stack,I.stkFree,I.hok,I.bare⟩
theorem Inv.after {Q:VK} {u:Value} (I:Inv X pins σ H s) (h:CE X.stack X.prog X.w H s Q u s'):EP X pins σ Q u s':=by
  obtain ⟨v,H',os,bare,un,hok,r,q⟩:=h
  obtain ⟨hh,g,d,t,os'⟩:=s'
  obtain rfl:os'=s.os:=os
  exact ⟨v,H',I.call (h':=hh) (g':=g) (d':=d) (t':=t) (ch:=[]) un hok bare (fun b z=>absurd z (by simp)),r,q⟩
end
noncomputable def Binds (K:PySem.W.Frag) (fd:FuncData) (ps:List Str) (ds:List Value):Prop :=
  ∀ (s:Shared) (us:List Value),K.In s.heap→(us++ds).length=ps.length→BindsTo s fd ⟨us,[]⟩ (ps.zip (us++ds))
theorem Binds.all {K:PySem.W.Frag} {fd:FuncData} {ps:List Str} (h:∀ us:List Value,us.length=ps.length→bindArgs fd ⟨us,[]⟩=pure (ps.zip us)):Binds K fd ps []:=fun s us _ hl=>by
  rw [List.append_nil] at hl ⊢
  exact .of_eq (h us hl)
noncomputable def qbX (CX:CXT) (X:Cx) (E:XK):Prop:=∀ (pins:List (Addr×Obj)) (σ:St) (H:Hp) (s:Shared) (e:Value) (s':Shared),Inv X pins σ H s→CX X.stack H s E e s'→X.xe e s'
section
variable {X:Cx} {CX:CXT} {k:Nat} {f C:Addr} {fd:FuncData} {ps:List Str} {sp:Sp} {dvs:List V} {ds:List Value} {E:XK} {x m:Str} {p pos apos:Pos} {e o:Expr} {es:List Expr} {ta:TE} {t:TA}
structure Mk (K:PySem.W.Frag) (C f:Addr):Prop where
  makes:PySem.W.makesIn K C=true
  init:PySem.W.findIn K (.ref C) "__init__"=some (some (.ref f))
  fn:PySem.W.isFn K (.ref f)=true
  kp:PySem.W.keepIn K (.ref C)=true
end
structure FnScope (N P:List Str) (sc:Scope):Prop where
  kind:sc.kind=.function
  co:sc.isCoroutine=false
  gen:sc.isGenerator=false
  nd:N.Nodup
  pre:N.take P.length=P
  par:∀ x∈P,sc.names.lookup x=some .local∨sc.names.lookup x=some .cell
  nofree:∀ y∈sc.names,y.2≠.free
theorem Qar {kindOf:Str→Option NameKind} {x:Str}:∀ {binds:List (Str×Value)} {m:Str→Option Value},(∀ v,(x,v)∉binds)→bindL kindOf binds m x=m x
  | [],_,_=>rfl
  | (n,v)::r,m,h=>by
    unfold bindL
    rw [Qar fun w hw=>h w (List.mem_cons_of_mem _ hw)]
    split
    · have:x≠n:=by rintro rfl; exact h v List.mem_cons_self
      simp [this]
    · rfl
theorem yar {kindOf:Str→Option NameKind} {x:Str}:∀ {binds:List (Str×Value)} {m:Str→Option Value},(∀ v,(x,v)∉binds)→bindC kindOf binds m x=m x
  | [],_,_=>rfl
  | (n,v)::r,m,h=>by
    unfold bindC
    rw [yar fun w hw=>h w (List.mem_cons_of_mem _ hw)]
    split
    · rfl
    · have:x≠n:=by rintro rfl; exact h v List.mem_cons_self
      simp [this]
theorem Yat {kindOf:Str→Option NameKind} {x:Str} {v:Value}:∀ {P:List Str} {vs:List Value} {i:Nat} {m:Str→Option Value},P.Nodup→P[i]?=some x→vs[i]?=some v→kindOf x=some .local →
    bindL kindOf (P.zip vs) m x=some v
  | [],_,_,_,_,h,_,_=>by simp at h
  | _::_,[],_,_,_,_,h,_=>by simp at h
  | p::P,w::vs,0,m,nd,h1,h2,hk=>by
    simp at h1 h2; subst h1; subst h2
    show bindL kindOf ((p,w)::P.zip vs) m p=_
    unfold bindL
    rw [Qar fun v hv=>(List.nodup_cons.mp nd).1 (List.of_mem_zip hv).1,if_pos hk]
    simp
  | p::P,w::vs,i + 1,m,nd,h1,h2,hk=>by
    show bindL kindOf ((p,w)::P.zip vs) m x=_
    unfold bindL
    exact Yat (i:=i) (List.nodup_cons.mp nd).2 (by simpa using h1) (by simpa using h2) hk
theorem yau {kindOf:Str→Option NameKind} {x:Str} {v:Value}:∀ {P:List Str} {vs:List Value} {i:Nat} {m:Str→Option Value},P.Nodup→P[i]?=some x→vs[i]?=some v→kindOf x≠some .local →
    bindC kindOf (P.zip vs) m x=some v
  | [],_,_,_,_,h,_,_=>by simp at h
  | _::_,[],_,_,_,_,h,_=>by simp at h
  | p::P,w::vs,0,m,nd,h1,h2,hk=>by
    simp at h1 h2; subst h1; subst h2
    show bindC kindOf ((p,w)::P.zip vs) m p=_
    unfold bindC
    rw [yar fun v hv=>(List.nodup_cons.mp nd).1 (List.of_mem_zip hv).1,if_neg hk]
    simp
  | p::P,w::vs,i + 1,m,nd,h1,h2,hk=>by
    show bindC kindOf ((p,w)::P.zip vs) m x=_
    unfold bindC
    exact yau (i:=i) (List.nodup_cons.mp nd).2 (by simpa using h1) (by simpa using h2) hk
noncomputable def start (N:List Str) (vs:List V):St:=vs.map some++List.replicate (N.length - vs.length) none
noncomputable def Y9 (CX:CXT) (P:Program) (w:World) (K:PySem.W.Frag) (mg:Str→Option Value) (base:Heap) (N:List Str) (qual:Str) (scope:Scope) (f:Addr) (cd:Value) (A:Around) (outer:List Env) (s:Shared) (H:Hp) (E:XK):Cx where
  prog:=P
  w:=w
  K:=K
  mg:=mg
  base:=base
  A:=A.deeper (envOfC qual scope s.heap.objs.size f cd)
  N:=N
  s₀:=s
  H₀:=H
  env:=envOfC qual scope s.heap.objs.size f cd
  outer:=outer
  stack:=envOfC qual scope s.heap.objs.size f cd::outer
  ex:=[]
  calm:=true
  fn:=fun _=>true
  pn:=[]
  xe:=fun e s'=>wpAny (model P w) (A.deeper (envOfC qual scope s.heap.objs.size f cd)) (leaving (envOfC qual scope s.heap.objs.size f cd) e) (fun _ s''=>CX outer H s E e s'') (fun e' s''=>CX outer H s E e' s'') s'
theorem ZaO {sc:Scope} {n:Nat} {x:Str} (h:sc.names.lookup x=some .cell):∃ c,(cellsFrom n sc.names []).lookup x=some c:=by
  have q:=PySem.W.cellsFrom_some sc.names n [] (.inl h)
  exact Option.isSome_iff_exists.mp q
theorem ya7 {CX:CXT} {P:Program} {w:World} {K:PySem.W.Frag} {mg:Str→Option Value} {base:Heap} {N ps:List Str} {qual:Str} {scope:Scope} {f:Addr} {cd:Value} {A:Around} {outer:List Env} {s s1:Shared} {H:Hp} {E:XK} {us:List Value} {vs:List V}
    (S:FnScope N ps scope) (hd:A.handled=none) (e0:Env0 P w K mg base A outer s H) (hl:vs.length=ps.length) (r:Vals vs us)
    (x:InCallC s s.heap.objs.size (bindL (envOfC qual scope s.heap.objs.size f cd).kindOf (ps.zip us) fun _=>none) (cellsFrom (s.heap.objs.size + 1) scope.names []) (bindC (envOfC qual scope s.heap.objs.size f cd).kindOf (ps.zip us) fun _=>none) s1) :
    Inv (Y9 CX P w K mg base N qual scope f cd A outer s H E) [] (start N vs) H s1:=by
  have hpl:ps.length≤N.length:=by have:=congrArg List.length S.pre; rw [List.length_take] at this; omega
  obtain ⟨h1,tk,rfl,hk⟩:=x.done
  have noA:∀ b:Addr,b∉(Y9 CX P w K mg base N qual scope f cd A outer s H E).ex:=fun b z=>absurd (show b∈([]:List Addr) from z) (by simp)
  refine ⟨⟨e0.mod,S.kind,rfl,rfl,Nat.le_refl _,fun y z c h1 h2=>?_,fun y hy=>?_,fun y c _ h=>?_,fun _=>hd,Around.frames_deeper e0.frames,.inr ⟨rfl,rfl⟩,fun b z=>absurd z (noA b),e0.bs,e0.bsz,fun b _ _=>noA b,fun b z=>absurd z (noA b),e0.funs,e0.frf⟩,
    rfl,e0.bare,Un.kept hk,⟨_,x.toInCall.ns,fun i y v h1 h2 h3=>?_⟩,fun y c h=>⟨_,x.cell y c h⟩,e0.hok.fresh (Nat.le_refl _),fun y c h=>?_,fun p hp=>absurd (show p∈([]:List (Addr×Obj)) from hp) (by simp),e0.hok.kept hk,?_⟩
  · exact name_of_addr x.apart (PySem.mem_of_lookup h1) (PySem.mem_of_lookup h2)
  · have hy:scope.names.lookup y=some .cell∨scope.names.lookup y=some .free:=hy
    rcases hy with hy | hy
    · exact ZaO hy
    · exact absurd rfl (S.nofree _ (PySem.mem_of_lookup hy))
  · exact Nat.le_of_lt (x.above y c (PySem.mem_of_lookup h))
  · have hi:i < vs.length:=by
      unfold start at h2
      by_cases hi:i < vs.length
      · exact hi
      · rw [List.getElem?_append_right (by simpa using hi)] at h2
        rw [List.getElem?_replicate] at h2
        split at h2 <;> cases h2
    have ha:vs[i]?=some v:=by
      unfold start at h2
      rw [List.getElem?_append_left (by simpa using hi),List.getElem?_map] at h2
      cases e:vs[i]? with
      | none=>rw [e] at h2; cases h2
      | some a=>rw [e] at h2; cases h2; rfl
    obtain ⟨u,hu,rv⟩:=r.get ha
    have hp:ps[i]?=some y:=by
      rw [← S.pre,List.getElem?_take_of_lt (by omega)]; exact h1
    have ndP:ps.Nodup:=by rw [← S.pre]; exact S.nd.sublist (List.take_sublist _ _)
    refine ⟨u,rv,?_⟩
    rcases S.par y (List.mem_of_getElem? hp) with k | k
    · exact .inl ⟨k,Yat ndP hp hu k⟩
    · obtain ⟨c,e⟩:=ZaO (n:=s.heap.objs.size + 1) k
      refine .inr ⟨.inl k,c,e,?_⟩
      have q:=x.cell y c e
      rw [yau ndP hp hu (by show scope.names.lookup y≠_; rw [k]; decide)] at q
      exact q
  · exact e0.hok.fresh (Nat.le_of_lt (x.above y c (PySem.mem_of_lookup h)))
  · unfold start
    show _=N.length
    rw [List.length_append,List.length_map,List.length_replicate]
    omega
theorem Ya1 {CX:CXT} {P:Program} {w:World} {K:PySem.W.Frag} {mg:Str→Option Value} {base:Heap} {k:Nat} {f:Addr} {name qual:Str} {params:Arguments} {body:List Stmt} {scope:Scope} {dV kV doc pm cdv ct oc:Value} {an od:Option Addr}
    {osl:Array (Option Value)} {N ps:List Str} {sp:Sp} (lk:K.lookup f=some ⟨oc,od,.func (PySem.W.fnOf name qual params body scope dV kV doc pm an cdv ct),osl⟩) (hcd:PySem.W.codeIn K cdv qual=true) (S:FnScope N ps scope)
    (len:∀ vs H Q E,sp vs H Q E→vs.length=ps.length)
    (hbody:∀ (A:Around) (outer:List Env) (s:Shared) (H:Hp) (vs:List V) (Q:VK) (E:XK),Room k (A.deeper (envOfC qual scope s.heap.objs.size f cdv))→sp vs H Q E →
      ∃ t,PSs (Y9 CX P w K mg base N qual scope f cdv A outer s H E) body t∧t {nx:=fun _ H'=>Q .non H',rt:=Q} (start N vs) H) :
    FnOk P w K mg base CX (k + 1) f (PySem.W.fnOf name qual params body scope dV kV doc pm an cdv ct) ps sp:=by
  refine ⟨len,fun A outer s H args us vs Q E hr e0 hb r hsp=>?_⟩
  have hl:=len _ _ _ _ hsp
  have KX:K.In s.heap:=e0.mod.kin.keeps fun b o e=>(e0.bs b o e).1
  have lim:s.heap.NoLimit:=e0.mod.nolimit.keeps fun b o e=>(e0.bs b o e).1
  have hkind:∀ y∈ps.zip us,scope.names.lookup y.1=some .local∨(scope.names.lookup y.1=some .cell∧((cellsFrom (s.heap.objs.size + 1) scope.names []).lookup y.1).isSome=true):=fun ⟨n,v⟩ hy=>by
    rcases S.par n (List.of_mem_zip hy).1 with q | q
    · exact .inl q
    · exact .inr ⟨q,PySem.W.cellsFrom_some _ _ _ (.inl q)⟩
  refine codeAny_call_function hr.depth (KX _ _ lk) rfl S.co S.gen rfl (PySem.W.codeRec_of KX hcd) (hb _ _ _ _ ?_)
  refine wpAny_newFunctionEnv_cells S.kind hkind fun env he s1 x=>?_
  subst he
  refine ⟨lim.keeps x.toInCall.keep,codeAny_func ?_⟩
  obtain ⟨t,ht,hq⟩:=hbody A outer s H vs Q E (hr.deeper _) hsp
  have I:Inv (Y9 CX P w K mg base N qual scope f cdv A outer s H E) [] (start N vs) H s1:=ya7 S hr.hd e0 hl r x
  refine wpAny_mono (ht [] s1 (start N vs) H _ I hq) (fun fl s' hs=>?_) fun e s' hs=>hs
  have fin:∀ {σ':St} {H':Hp} {v:V} {u:Value},Inv (Y9 CX P w K mg base N qual scope f cdv A outer s H E) [] σ' H' s'→RelV v u→Q v H'→CE outer P w H s Q u s' :=
    fun {σ' H' v u} J rv q=>⟨v,H',J.os,J.bare,J.base,J.hok,rv,q⟩
  cases fl with
  | ret u =>
    obtain ⟨v,σ',H',J,rv,q⟩:=hs
    exact fin J rv q
  | next =>
    obtain ⟨σ',H',J,q⟩:=hs
    exact fin (v:=V.non) (u:=Value.none) J rfl q
  | brk =>
    obtain ⟨_,_,_,q⟩:=hs
    exact False.elim q
  | cont =>
    obtain ⟨_,_,_,q⟩:=hs
    exact False.elim q
section
variable {X:Cx} {x:Str} {p pos:Pos} {e:Expr} {es:List Expr} {t:TA} {id T:String} {r:List V→Hp→VK→Prop}
noncomputable def tCB (r:List V→Hp→VK→Prop) (t:TA):TE:=fun σ H Q=>t σ H fun vs H1=>r vs H1 Q
theorem zai (hc:CallR X (.builtin id) r) (hg:Gl X x) (hm:X.mg x=none) (hv:bootBuiltins x=some (.builtin id)) (ha:PA X (e::es) t) (hn:x≠"__name__":=by decide) (hdb:(x == ("__debug__":Str))=false:=by decide)
    (he:starEach (e::es) X.env=(false,eval e X.env)::starEach es X.env:=by rfl) (hpl:(backTo pos (starEach es X.env)).any (·.1)=false:=by rfl):PE X (.Call (.Name x p) (e::es) [] pos) (tCB r t):=by
  intro pins s σ H Q I h
  refine wpAny_Call_Name_kw (Q2 I hg hm hv ?_ hn hdb)
  exact PyProof.Rows.callWith_builtin1 (thn (ha pos pins s σ H _ I h) fun us s1 ⟨vs,H1,I1,r1,q1⟩=>hc pins s1 σ H1 vs us Q I1 r1 q1) he hpl
theorem Yaq (hc:CallR X (.type T) r) (hg:Gl X x) (hm:X.mg x=none) (hv:bootBuiltins x=some (.type T)) (ha:PA X (e::es) t) (hn:x≠"__name__":=by decide) (hdb:(x == ("__debug__":Str))=false:=by decide)
    (he:starEach (e::es) X.env=(false,eval e X.env)::starEach es X.env:=by rfl) (hpl:(backTo pos (starEach es X.env)).any (·.1)=false:=by rfl):PE X (.Call (.Name x p) (e::es) [] pos) (tCB r t):=by
  intro pins s σ H Q I h
  refine wpAny_Call_Name_kw (Q2 I hg hm hv ?_ hn hdb)
  exact PyProof.Rows.callWith_type1 (thn (ha pos pins s σ H _ I h) fun us s1 ⟨vs,H1,I1,r1,q1⟩=>hc pins s1 σ H1 vs us Q I1 r1 q1) he hpl
end
end L2
namespace HT
open PySem PyProof.Rows
theorem rcLt_int (A:Around) (s:Shared) (a:Int) (t:Tok) (c:Int) (u:Tok) (prog:Program) (w:World) (E:Value→Shared→Prop) (Q:Value→Shared→Prop) (h:Q (.bool (decide (a < c))) s) :
    wpAny (model prog w) A (richCompare .Lt (.int a t) (.int c u)) Q E s :=
  (PyProof.Rows.lt_int h:wpAny (model prog w) A (compareOp .Lt (.int a t) (.int c u)) Q E s)
section
variable {prog:Program} {w:World} {A:Around} {E:Value→Shared→Prop} {s:Shared}
theorem cat_tup {t b:Addr} {vs ws:List Value} {Q:Value→Shared→Prop} (ht:IsTup s.heap t vs.toArray) (hb:IsTup s.heap b ws.toArray) (hv:vs≠[])
    (h1:ws=[]→Q (.ref t) s) (h2:ws≠[]→Q (.ref s.heap.objs.size) {s with heap:=s.heap.push {cls:=.type "tuple",data:=.seq (vs++ws).toArray}})
    (hsz:vs.length + ws.length≤sizeLine):wpAny (model prog w) A (binaryOp .Add (.ref t) (.ref b)) Q E s:=by
  obtain ⟨⟨cls,dd,data,sl⟩,ho,hc,n,hd⟩:=id ht
  obtain ⟨⟨cls2,dd2,data2,sl2⟩,ho2,hc2,n2,hd2⟩:=id hb
  simp only at hc hd hc2 hd2
  subst hc hd hc2 hd2
  have e:vs.toArray++ws.toArray=(vs++ws).toArray:=by simp
  by_cases hw:ws=[]
  · exact concat_meets ⟨_,ho,rfl⟩ ⟨_,ho2,rfl⟩ noFill_tuple_add seq_tuple_add PySem.F.slot_tuple_add PySem.F.entry_tuple_add (PySem.F.args_tuple_add_2 _ _)
      (tuple_addW1 t b vs.toArray ws.toArray n n2 dd dd2 sl sl2 (by simpa using hv) (by simp [hw])) ⟨ho,ho2,h1 hw⟩
  · refine concat_meets ⟨_,ho,rfl⟩ ⟨_,ho2,rfl⟩ noFill_tuple_add seq_tuple_add PySem.F.slot_tuple_add PySem.F.entry_tuple_add (PySem.F.args_tuple_add_2 _ _)
      (tuple_addW2 t b vs.toArray ws.toArray n n2 dd dd2 sl sl2 (by simpa using hv) (by simpa using hw) (by rw [List.size_toArray,List.size_toArray]; exact hsz)) ⟨ho,ho2,?_⟩
    rw [e]
    exact h2 hw
noncomputable def sIx (n d:Nat):Option Int→Nat
  | none=>d
  | some v=>if v < 0 then (v + (n:Int)).toNat else min v.toNat n
theorem qb6 (n d:Nat) (hd:d≤n) (o:Option Int):sIx n d o≤n:=by
  cases o with
  | none=>exact hd
  | some v =>
    show (if v < 0 then (v + (n:Int)).toNat else min v.toNat n)≤n
    by_cases hv:v < 0
    · rw [if_pos hv]; omega
    · rw [if_neg hv]; exact Nat.min_le_right _ _
theorem ya5 (v:Int) (n d:Nat):(if v < 0 then max (v + (n:Int)) 0 else min v (n:Int))=((sIx n d (some v):Nat):Int):=by
  show (if v < 0 then max (v + (n:Int)) 0 else min v (n:Int))=(((if v < 0 then (v + (n:Int)).toNat else min v.toNat n):Nat):Int)
  by_cases hv:v < 0
  · simp only [if_pos hv]; omega
  · simp only [if_neg hv]; omega
theorem QaS (lo hi:Option Int) (n:Nat):Builtin.Slice.sliceAdjust lo hi 1 (n:Int)=(((sIx n 0 lo:Nat):Int),((sIx n n hi:Nat):Int)):=by
  have h1:¬ ((1:Int) < 0):=by omega
  unfold Builtin.Slice.sliceAdjust
  simp only [h1,if_false]
  refine Prod.ext ?_ ?_
  · cases lo with
    | none=>rfl
    | some v=>exact ya5 v n 0
  · cases hi with
    | none=>rfl
    | some v=>exact ya5 v n n
theorem zaZ (i j:Nat):Builtin.Slice.slicePlaces (i:Int) (j:Int) 1=j - i:=by
  unfold Builtin.Slice.slicePlaces
  have h1:(1:Int) > 0:=by omega
  simp only [h1,if_true,Int.ediv_one]
  split <;> omega
theorem qab {v:Value} {o:Option Int} {Q:Option Int→Shared→Prop} (p:IsPart v o) (h:Q o s):wpAny (model prog w) A (Builtin.Slice.slicePartIndex v) Q E s:=by
  cases p with
  | none=>exact slicePart_none h
  | int i t=>exact slicePart_int h
theorem yC {sl:Addr} {vl vu:Value} {lo hi:Option Int} {n:Nat} {Q:Int×Int×Nat→Shared→Prop} (hs:s.heap.IsSliceOf sl vl vu .none) (pl:IsPart vl lo) (pu:IsPart vu hi)
    (h:Q (((sIx n 0 lo:Nat):Int),1,sIx n n hi - sIx n 0 lo) s):wpAny (model prog w) A (Builtin.Slice.sliceApplied (.ref sl) (pure (n:Int))) Q E s:=by
  obtain ⟨os,hos,hcs,hds⟩:=id hs
  unfold Builtin.Slice.sliceApplied Builtin.Slice.sliceFields
  refine wpAny_bind (wpAny_bind (wpAny_field hos hds (x:=vl) rfl (wpAny_bind (wpAny_field hos hds (x:=vu) rfl (wpAny_bind (wpAny_field hos hds (x:=.none) rfl (wpAny_pure ?_)))))))
  refine wpAny_bind (slicePart_none ?_)
  show wpAny _ _ (if ((1:Int) == 0)=true then _ else _) _ _ s
  rw [if_neg (by decide)]
  refine wpAny_bind (qab pl (wpAny_bind (qab pu (wpAny_bind (wpAny_pure ?_)))))
  show wpAny _ _ (match Builtin.Slice.sliceAdjust lo hi 1 (n:Int) with | (lo,hi)=>pure (lo,(1:Int),Builtin.Slice.slicePlaces lo hi 1)) _ _ s
  rw [QaS lo hi n]
  show wpAny _ _ (pure (((sIx n 0 lo:Nat):Int),(1:Int),Builtin.Slice.slicePlaces ((sIx n 0 lo:Nat):Int) ((sIx n n hi:Nat):Int) 1)) _ _ s
  rw [zaZ]
  exact wpAny_pure h
theorem zbt (xs:Array Value) (i k:Nat):((List.range k).filterMap fun (m:Nat)=>xs[((i:Int) + (m:Int) * 1).toNat]?).toArray=((xs.toList.drop i).take k).toArray:=by
  have e:(fun (m:Nat)=>xs[((i:Int) + (m:Int) * 1).toNat]?)=fun m=>xs[i + m]?:=by
    funext m
    have:((i:Int) + (m:Int) * 1).toNat=i + m:=by omega
    rw [this]
  rw [e]
  have:=pick_run xs i k
  rw [List.filterMap_map] at this
  have e2:((fun x=>xs[x]?)∘fun x=>i + x)=fun m=>xs[i + m]?:=rfl
  rw [e2] at this
  rw [this]
theorem getItem_tuple_cut {t sl:Addr} {items:Array Value} {vl vu:Value} {lo hi:Option Int} {Q:Value→Shared→Prop} (ht:IsTup s.heap t items) (hs:s.heap.IsSliceOf sl vl vu .none) (pl:IsPart vl lo) (pu:IsPart vu hi)
    (hw:¬ (sIx items.size 0 lo=0∧sIx items.size items.size hi=items.size))
    (h:Q (.ref s.heap.objs.size) {s with heap:=s.heap.push {cls:=.type "tuple",data:=.seq ((items.toList.drop (sIx items.size 0 lo)).take (sIx items.size items.size hi - sIx items.size 0 lo)).toArray}})
    (hsz:items.size≤sizeLine):wpAny (model prog w) A (getItem (.ref t) (.ref sl)) Q E s:=by
  have htake:sizeOk (.seq ((items.toList.drop (sIx items.size 0 lo)).take (sIx items.size items.size hi - sIx items.size 0 lo)).toArray):=by
    show ((items.toList.drop (sIx items.size 0 lo)).take (sIx items.size items.size hi - sIx items.size 0 lo)).toArray.size≤sizeLine
    rw [List.size_toArray,List.length_take,List.length_drop,Array.length_toList]
    omega
  have hj:sIx items.size items.size hi≤items.size:=qb6 _ _ (Nat.le_refl _) hi
  obtain ⟨os,hos,hcs,hds⟩:=id hs
  have hTs:s.TypeIs (.ref sl) "slice":=⟨os,hos,hcs⟩
  unfold getItem
  try with_reducible refine wpAny_holding ?_
  first | refine wpAny_bind (wpAny_pure ?_) | skip
  refine wpAny_bind (wpAny_sequenceKey ht.typeIs (by decide) ?_)
  refine wpAny_bind (wpAny_callSpecial?_slot (name:=Str.ofString "__getitem__") ht.typeIs PyProof.Rows.slot_tuple_getitem
    (wpAny_call_entry PyProof.Rows.slot_tuple_getitem ht.typeIs entry_tuple_getitem ?_ (args_tuple_getitem _ _)))
  show wpAny _ _ (Builtin.Tuple.tupleItemsOf (.ref t) >>= _) _ _ s
  refine wpAny_bind (tupleItemsOf_ ht ?_)
  refine wpAny_bind (wpAny_typeOf hTs ?_)
  rw [if_pos (by decide)]
  refine wpAny_bind (yC hs pl pu ?_)
  have hno:¬ ((((sIx items.size 0 lo:Nat):Int) == 0&&(1:Int) == 1&&(sIx items.size items.size hi - sIx items.size 0 lo) == items.size)=true):=by
    intro q
    rw [Bool.and_eq_true,Bool.and_eq_true] at q
    have q1:((sIx items.size 0 lo:Nat):Int)=0:=eq_of_beq q.1.1
    have q2:sIx items.size items.size hi - sIx items.size 0 lo=items.size:=eq_of_beq q.2
    exact hw ⟨by omega,by omega⟩
  show wpAny _ _ (if (((sIx items.size 0 lo:Nat):Int) == 0&&(1:Int) == 1&&(sIx items.size items.size hi - sIx items.size 0 lo) == items.size)=true then _ else _) _ _ s
  rw [if_neg hno,zbt]
  first
    | exact wpAny_bind (m:=Builtin.Tuple.tupleExact _) (wpAny_newObj_type (wpAny_pure ⟨_,rfl,wpAny_pure h⟩) htake)
    | exact wpAny_bind (m:=Builtin.Tuple.tupleExact _) (wpAny_newObj_type (wpAny_bind (wpAny_pure (wpAny_pure ⟨_,rfl,wpAny_pure h⟩))) htake)
    | exact wpAny_bind (wpAny_bind (m:=Builtin.Tuple.tupleExact _) (wpAny_newObj_type (wpAny_pure (wpAny_pure ⟨_,rfl,wpAny_pure h⟩)) htake))
    | exact wpAny_bind (wpAny_bind (m:=Builtin.Tuple.tupleExact _) (wpAny_newObj_type (wpAny_pure ⟨_,rfl,wpAny_pure h⟩) htake))
end
end HT
namespace L2
open PySem PySem.Spec PyProof.Rows
noncomputable abbrev TO:=St→Hp→(Option Int→Hp→Prop)→Prop
noncomputable def PO (X:Cx) (e:Option Expr) (t:TO):Prop :=
  ∀ (pins:List (Addr×Obj)) (s:Shared) (σ:St) (H:Hp) (Q:Option Int→Hp→Prop),Inv X pins σ H s→t σ H Q →
    wpAny (model X.prog X.w) X.A (evalPart e X.env) (fun u s'=>∃ o H',Inv X pins σ H' s'∧IsPart u o∧Q o H') X.xe s
noncomputable def QbN:TO:=fun _ H Q=>Q none H
noncomputable def tPart (t:TE):TO:=fun σ H Q=>t σ H fun x H1=>∃ i,x=.int i∧Q (some i) H1
section
variable {X:Cx} {e:Expr} {te:TE} {lo hi:Option Expr} {tl th:TO} {pos p2:Pos}
theorem ZbE:PO X none QbN:=by
  intro pins s σ H Q I h
  rw [evalPart_none]
  exact wpAny_pure ⟨none,H,I,.none,h⟩
theorem zbz (h:PE X e te):PO X (some e) (tPart te):=by
  intro pins s σ H Q I hw
  rw [evalPart_some]
  refine thn (h pins s σ H _ I hw) fun u s1 ⟨x,H1,I1,r1,q1⟩=>?_
  obtain ⟨i,rfl,q⟩:=q1
  obtain ⟨t,rfl⟩:=r1
  exact ⟨some i,H1,I1,.int i t,q⟩
noncomputable def SlR (X:Cx) (r:V→Option Int→Option Int→Hp→VK→Prop):Prop :=
  ∀ (pins:List (Addr×Obj)) (s:Shared) (σ:St) (H:Hp) (x:V) (v vl vu:Value) (lo hi:Option Int) (sl:Addr) (Q:VK),Inv X pins σ H s→RelV x v→s.heap.IsSliceOf sl vl vu .none→IsPart vl lo→IsPart vu hi→r x lo hi H Q →
    ∃ T id,typeLookup (.type T) "__getitem__"=pure (some (.builtin id))∧s.TypeIs v T∧wpAny (model X.prog X.w) X.A (getItem v (.ref sl)) (EP X pins σ Q) X.xe s
noncomputable def tSl (r:V→Option Int→Option Int→Hp→VK→Prop) (te:TE) (tl th:TO):TE:=fun σ H Q=>te σ H fun x H1=>tl σ H1 fun l H2=>th σ H2 fun u H3=>r x l u H3 Q
theorem Qbn {r:V→Option Int→Option Int→Hp→VK→Prop} (hr:SlR X r) (he:PE X e te) (hl:PO X lo tl) (hu:PO X hi th):PE X (.Subscript e (.Slice lo hi none p2) pos) (tSl r te tl th):=by
  intro pins s σ H Q I h
  refine Subscript_ (thn (he pins s σ H _ I h) fun v s1 ⟨x,H1,I1,r1,q1⟩=>?_)
  refine wpAny_Slice (thn (hl pins s1 σ H1 _ I1 q1) fun vl s2 ⟨l,H2,I2,pl,q2⟩=>thn (hu pins s2 σ H2 _ I2 q2) fun vu s3 ⟨u,H3,I3,pu,q3⟩=>?_)
  rw [evalPart_none]
  refine wpAny_pure ?_
  have I4:Inv X pins σ H3 {s3 with heap:=s3.heap.push {cls:=.type "slice",data:=.fields #[vl,vu,.none]}}:=I3.kept (t':=s3.toks) fun b ob q=>Heap.get?_push_of_some _ q
  obtain ⟨T,id,hT,ht,hg⟩:=hr pins {s3 with heap:=s3.heap.push {cls:=.type "slice",data:=.fields #[vl,vu,.none]}} σ H3 x v vl vu l u s3.heap.objs.size Q I4 r1 (Heap.IsSliceOf.new ..) pl pu q3
  show wpAny (model X.prog X.w) X.A (subscriptTail e (.Slice lo hi none p2) v (.ref s3.heap.objs.size)) (EP X pins σ Q) X.xe {s3 with heap:=s3.heap.push {cls:=.type "slice",data:=.fields #[vl,vu,.none]}}
  exact tail_any (ops:=[.ref s3.heap.objs.size,v]) ht hT hg (by with_unfolding_all rfl)
noncomputable def yaO (xs:List V) (lo hi:Option Int):List V:=(xs.drop (HT.sIx xs.length 0 lo)).take (HT.sIx xs.length xs.length hi - HT.sIx xs.length 0 lo)
theorem Z3 (xs:List V) (lo hi:Option Int):(yaO xs lo hi).length≤xs.length:=by
  unfold yaO
  rw [List.length_take,List.length_drop]
  omega
noncomputable def rSlT (K:PySem.W.Frag):V→Option Int→Option Int→Hp→VK→Prop:=fun x lo hi H Q=>∃ a xs,x=.ref a∧SqT K H a xs ∧
  ¬ (HT.sIx xs.length 0 lo=0∧HT.sIx xs.length xs.length hi=xs.length)∧∀ p,H p=none→Q (.ref p) (upd H p (.tup (yaO xs lo hi)))
theorem qb7:SlR X (rSlT X.K):=by
  intro pins s σ H x v vl vu lo hi sl Q I rx hs pl pu h
  obtain ⟨a,xs,rfl,hx,hw,q⟩:=h
  cases rx
  obtain ⟨its,r,ht,hz⟩:=I.tuple hx
  have hlen:its.toArray.size=xs.length:=by rw [List.size_toArray]; exact r.length.symm
  refine ⟨"tuple",_,PyProof.Rows.slot_tuple_getitem.lookup,ht.typeIs,?_⟩
  refine HT.getItem_tuple_cut ht hs pl pu (by rw [hlen]; exact hw) ?_ (by rw [hlen]; exact hz)
  rw [hlen]
  refine ⟨.ref s.heap.objs.size,_,I.laid (t':=s.toks) (o:=.tup (yaO xs lo hi)) (fun b ob q=>Heap.get?_push_of_some _ q) (Nat.le_refl _) ?_,rfl,q _ (I.hok.fresh (Nat.le_refl _))⟩
  exact ⟨Nat.le_trans (Z3 xs lo hi) hz,_,(r.drop (HT.sIx xs.length 0 lo)).take (HT.sIx xs.length xs.length hi - HT.sIx xs.length 0 lo),IsTup.new _ _⟩
noncomputable def rCatT (K:PySem.W.Frag):R2:=fun x y H Q=>∃ a b xs ys,x=.ref a∧y=.ref b∧SqT K H a xs∧SqT K H b ys∧xs≠[]∧xs.length + ys.length≤sizeLine ∧
  (ys=[]→Q (.ref a) H)∧(ys≠[]→∀ p,H p=none→Q (.ref p) (upd H p (.tup (xs++ys))))
theorem Vals.nil_iff {xs:List V} {us:List Value} (r:Vals xs us):us=[]↔xs=[]:=by
  cases r with
  | nil=>simp
  | cons _ _=>simp
theorem QbG:OpR X (binaryOp .Add) (rCatT X.K):=by
  intro pins s σ H x y v u Q I rx ry h
  obtain ⟨a,b,xs,ys,rfl,rfl,ha,hb,hx,hz,q1,q2⟩:=h
  cases rx
  cases ry
  obtain ⟨its,r1,p1,_⟩:=I.tuple ha
  obtain ⟨its2,r2,p2,_⟩:=I.tuple hb
  refine HT.cat_tup p1 p2 (fun z=>hx (r1.nil_iff.mp z)) (fun z=>⟨.ref a,H,I,rfl,q1 (r2.nil_iff.mp z)⟩) (fun z=>?_) (by rw [← r1.length,← r2.length]; exact hz)
  refine ⟨.ref s.heap.objs.size,_,I.laid (t':=s.toks) (o:=.tup (xs++ys)) (fun b ob q=>Heap.get?_push_of_some _ q) (Nat.le_refl _) ?_,rfl,q2 (fun w=>z (r2.nil_iff.mpr w)) _ (I.hok.fresh (Nat.le_refl _))⟩
  exact ⟨by rw [List.length_append]; exact hz,_,r1.append r2,IsTup.new _ _⟩
end
noncomputable def ixN (n:Nat) (i:Int):Option Nat:=if 0≤i then (if i < n then some i.toNat else none) else if -(n:Int)≤i then some (i + n).toNat else none
noncomputable def atI {α:Type} (xs:List α) (i:Int):Option α:=(ixN xs.length i).bind fun j=>xs[j]?
theorem Za3 {n:Nat} {i:Int} {j:Nat} (h:ixN n i=some j):seqIndex? i n=some j∧j < n∧-(n:Int)≤i∧i < n:=by
  unfold ixN at h
  by_cases h0:0≤i
  · rw [if_pos h0] at h
    by_cases h1:i < n
    · rw [if_pos h1] at h
      have e:i.toNat=j:=Option.some.inj h
      exact ⟨by rw [seqIndex_of h0 h1,e],by omega,by omega,h1⟩
    · rw [if_neg h1] at h; cases h
  · rw [if_neg h0] at h
    by_cases h1:-(n:Int)≤i
    · rw [if_pos h1] at h
      have e:(i + n).toNat=j:=Option.some.inj h
      exact ⟨by rw [seqIndex_neg (by omega) h1,e],by omega,h1,by omega⟩
    · rw [if_neg h1] at h; cases h
theorem Qa2 {α:Type} {xs:List α} {i:Int} {v:α} (h:atI xs i=some v):∃ j,seqIndex? i xs.length=some j∧xs[j]?=some v∧j < xs.length∧-(xs.length:Int)≤i∧i < xs.length:=by
  unfold atI at h
  cases e:ixN xs.length i with
  | none=>rw [e] at h; cases h
  | some j =>
    rw [e] at h
    obtain ⟨h1,h2,h3,h4⟩:=Za3 e
    exact ⟨j,h1,h,h2,h3,h4⟩
noncomputable def za5 (b:Expr):Prop:=∀ o i,subscripted b false o i=operate [o,i] (getItem o i)
noncomputable def IxR (X:Cx) (r:R2):Prop :=
  ∀ (value slice:Expr) (pins:List (Addr×Obj)) (s:Shared) (σ:St) (H:Hp) (x y:V) (v u:Value) (Q:VK),Inv X pins σ H s→RelV x v→RelV y u→r x y H Q →
    subscripted slice false v u=operate [v,u] (getItem v u)→wpAny (model X.prog X.w) X.A (subscriptTail value slice v u) (EP X pins σ Q) X.xe s
noncomputable def MtR (X:Cx) (id:String) (r:V→List V→Hp→VK→Prop):Prop :=
  ∀ (pins:List (Addr×Obj)) (s:Shared) (σ:St) (H:Hp) (x:V) (xs:List V) (v:Value) (us:List Value) (Q:VK),Inv X pins σ H s→RelV x v→Vals xs us→r x xs H Q →
    wpAny (model X.prog X.w) X.A (call (.builtin id) (v::us)) (EP X pins σ Q) X.xe s
section
variable {X:Cx} {a b:Expr} {ta tb:TE} {pos:Pos}
theorem pe_ix {r:R2} (hr:IxR X r) (ha:PE X a ta) (hb:PE X b tb) (hs:za5 b):PE X (.Subscript a b pos) (tOp r ta tb):=by
  intro pins s σ H Q I h
  exact Subscript_ (binT ha hb I h fun v u s2 x y H2 I2 rx ry q=>hr a b pins s2 σ H2 x y v u Q I2 rx ry q (hs _ _))
noncomputable def rIxL (K:PySem.W.Frag):R2:=fun x y H Q=>∃ p xs i v,x=.ref p∧y=.int i∧SqL K H p xs∧atI xs i=some v∧Q v H
noncomputable def rIxT (K:PySem.W.Frag):R2:=fun x y H Q=>∃ p xs i v,x=.ref p∧y=.int i∧SqT K H p xs∧atI xs i=some v∧Q v H
theorem zbN:IxR X (rIxL X.K):=by
  intro value slice pins s σ H x y v u Q I rx ry h hs
  obtain ⟨p,xs,i,z,rfl,rfl,hq,he,q⟩:=h
  cases rx
  obtain ⟨t,rfl⟩:=ry
  obtain ⟨its,r,pl,hz⟩:=I.list hq
  obtain ⟨j,h1,h2,h3,h4,h5⟩:=Qa2 he
  obtain ⟨w,ew,rw'⟩:=r.get h2
  have hl:=r.length
  have hn:=qaE
  have fin:EP X pins σ Q w s:=⟨z,H,I,rw',q⟩
  by_cases h0:0≤i
  · have hj:i.toNat=j:=by
      rw [seqIndex_of h0 h5] at h1
      exact Option.some.inj h1
    exact item_listR pl.isList h0 (by omega) (by rw [hj]; simpa using ew) fin hs
  · have hj:(i + (its.toArray.size:Int)).toNat=j:=by
      rw [seqIndex_neg (by omega) h4] at h1
      rw [List.size_toArray,← hl]
      exact Option.some.inj h1
    exact subscriptTail_builtinR (x:=w) pl.isList.typeIs slot_list_getitem.lookup
      (wpAny_getItem_list_neg (Q:=fun r s'=>r=w∧EP X pins σ Q r s') pl.isList (by omega) (by rw [List.size_toArray] <;> omega) (by omega) (by rw [hj]; simpa using ew) ⟨rfl,fin⟩) hs
theorem zbV:IxR X (rIxT X.K):=by
  intro value slice pins s σ H x y v u Q I rx ry h hs
  obtain ⟨p,xs,i,z,rfl,rfl,hq,he,q⟩:=h
  cases rx
  obtain ⟨t,rfl⟩:=ry
  obtain ⟨its,r,pl,hz⟩:=I.tuple hq
  obtain ⟨j,h1,h2,h3,h4,h5⟩:=Qa2 he
  obtain ⟨w,ew,rw'⟩:=r.get h2
  have hl:=r.length
  have hn:=qaE
  have fin:EP X pins σ Q w s:=⟨z,H,I,rw',q⟩
  exact subscriptTail_builtinR (x:=w) pl.typeIs slot_tuple_getitem.lookup
    (getItem_tuple (j:=j) (Q:=fun r s'=>r=w∧EP X pins σ Q r s') pl (by omega) (by omega) (by rw [List.size_toArray,← hl]; exact h1) (by simpa using ew) ⟨rfl,fin⟩) hs
theorem qaW (its:List Value) (n j:Nat) (u:Value):Obj.mapSeq (·.setIfInBounds j u) {cls:=.type "list",data:=.seq its.toArray n}={cls:=.type "list",data:=.seq (its.set j u).toArray n}:=by
  simp [Obj.mapSeq]
theorem Inv.lst {pins:List (Addr×Obj)} {σ:St} {H:Hp} {s:Shared} {p:Addr} {xs:List V} (I:Inv X pins σ H s) (h:H p=some (.lst xs)) :
    ∃ (its:List Value) (n:Nat),Vals xs its∧s.heap.get? p=some {cls:=.type "list",data:=.seq its.toArray n}∧xs.length≤sizeLine:=by
  obtain ⟨z,its,n,r,e⟩:=I.hok p _ h
  exact ⟨its,n,r,e,z⟩
theorem Inv.lstUpd {pins:List (Addr×Obj)} {σ:St} {H:Hp} {s:Shared} {p:Addr} {xs ys:List V} {its its':List Value} {n n':Nat} {f:Obj→Obj} (I:Inv X pins σ H s) (h:H p=some (.lst xs))
    (ho:s.heap.get? p=some {cls:=.type "list",data:=.seq its.toArray n}) (hf:f {cls:=.type "list",data:=.seq its.toArray n}={cls:=.type "list",data:=.seq its'.toArray n'}) (r:Vals ys its') (hz:ys.length≤sizeLine) (t:Nat) :
    Inv X pins σ (upd H p (.lst ys)) {s with heap:=s.heap.update p f,toks:=t}:=by
  have e:(s.heap.update p f).get? p=some {cls:=.type "list",data:=.seq its'.toArray n'}:=by
    rw [Heap.get?_update_self f ho (by rw [hf] <;> rfl),hf]
  refine I.write (x:=p) (e:=p) (by rw [h]; trivial) (.inl rfl) (fun b u hb q=>(Heap.get?_update_other _ _ (Ne.symm hb)).trans q) ⟨_,e⟩ ?_
  exact ⟨hz,its',n',r,e⟩
noncomputable def rSetL:V→V→V→Hp→(Hp→Prop)→Prop:=fun o i v H Q=>∃ p xs k j,o=.ref p∧i=.int k∧H p=some (.lst xs)∧ixN xs.length k=some j∧Q (upd H p (.lst (xs.set j v)))
theorem Zbi:PSet X rSetL:=by
  intro pins s σ H o i v ov iv u Q I ro ri rv h
  obtain ⟨p,xs,k,j,rfl,rfl,hp,hj,q⟩:=h
  cases ro
  obtain ⟨t,rfl⟩:=ri
  obtain ⟨its,n,r,ho,hz⟩:=I.lst hp
  obtain ⟨h1,h2,h3,h4⟩:=Za3 hj
  have hl:=r.length
  have hn:=qaE
  have I':Inv X pins σ (upd H p (.lst (xs.set j v))) {s with heap:=s.heap.update p (Obj.mapSeq (·.setIfInBounds j u))} :=
    I.lstUpd hp ho (qaW its n j u) (r.set rv j) (by rw [List.length_set]; exact hz) s.toks
  by_cases h0:0≤k
  · have hk:k.toNat=j:=by
      rw [seqIndex_of h0 h4] at h1
      exact Option.some.inj h1
    exact PySem.W.ki_setAt ho h0 (by omega) (by rw [List.size_toArray,← hl]; exact h4) (by rw [hk]; exact ⟨_,I',q⟩)
  · have hk:(k + (its.toArray.size:Int)).toNat=j:=by
      rw [seqIndex_neg (by omega) h3] at h1
      rw [List.size_toArray,← hl]
      exact Option.some.inj h1
    exact PySem.W.ki_setBack ho (by omega) (by rw [List.size_toArray,← hl]; exact h3) (by omega) (by rw [hk]; exact ⟨_,I',q⟩)
theorem Qau (lo hi:Option Int) (n:Nat):(sliceBounds lo hi none n).1=((HT.sIx n 0 lo:Nat):Int)∧(sliceBounds lo hi none n).2.1=((HT.sIx n n hi:Nat):Int)∧(sliceBounds lo hi none n).2.2=1:=by
  refine ⟨?_,?_,rfl⟩
  · cases lo with
    | none=>simp [sliceBounds,HT.sIx]
    | some i =>
      simp only [sliceBounds,HT.sIx,Option.getD_none,show (1:Int) > 0 by decide,if_true]
      by_cases h:i < 0
      · simp only [h,if_true] <;> omega
      · simp only [h,if_false] <;> omega
  · cases hi with
    | none=>simp [sliceBounds,HT.sIx]
    | some i =>
      simp only [sliceBounds,HT.sIx,Option.getD_none,show (1:Int) > 0 by decide,if_true]
      by_cases h:i < 0
      · simp only [h,if_true] <;> omega
      · simp only [h,if_false] <;> omega
theorem zao (its:List Value) (lo hi:Option Int):slicePick its.toArray lo hi none=((its.drop (HT.sIx its.length 0 lo)).take (HT.sIx its.length its.length hi - HT.sIx its.length 0 lo)).toArray:=by
  obtain ⟨h1,h2,h3⟩:=Qau lo hi its.toArray.size
  unfold slicePick
  rw [h1,h2,h3]
  simp only [sliceRange_one,pick_run,List.size_toArray] <;> rfl
noncomputable def rSlL (K:PySem.W.Frag):V→Option Int→Option Int→Hp→VK→Prop:=fun x lo hi H Q=>∃ a xs,x=.ref a∧SqL K H a xs∧∀ p,H p=none→Q (.ref p) (upd H p (.lst (yaO xs lo hi)))
theorem qa1:SlR X (rSlL X.K):=by
  intro pins s σ H x v vl vu lo hi sl Q I rx hs pl pu h
  obtain ⟨a,xs,rfl,hx,q⟩:=h
  cases rx
  obtain ⟨its,r,ht,hz⟩:=I.list hx
  have hlen:=r.length
  refine ⟨"list",_,slot_list_getitem.lookup,ht.isList.typeIs,?_⟩
  refine wpAny_getItem_list_slice ht.isList hs pl pu .none (by simp) ?_ (by rw [List.size_toArray] <;> omega)
  rw [zao,← hlen]
  refine ⟨.ref s.heap.objs.size,_,I.laid (t':=s.toks) (o:=.lst (yaO xs lo hi)) (fun b ob q=>Heap.get?_push_of_some _ q) (Nat.le_refl _) ?_,rfl,q _ (I.hok.fresh (Nat.le_refl _))⟩
  exact ⟨Nat.le_trans (Z3 xs lo hi) hz,_,0,(r.drop (HT.sIx xs.length 0 lo)).take (HT.sIx xs.length xs.length hi - HT.sIx xs.length 0 lo),Heap.get?_push_size _ rfl⟩
theorem Qay:CallR X (.builtin "len") (fun xs H Q=>∃ p ys,xs=[.ref p]∧(SqL X.K H p ys∨SqT X.K H p ys)∧Q (.int ys.length) H):=by
  intro pins s σ H xs us Q I r h
  obtain ⟨p,ys,rfl,hq,q⟩:=h
  obtain ⟨u,rfl,rx⟩:=Qbx r
  cases rx
  have hn:=qaE
  rcases hq with hq | hq
  · obtain ⟨its,r',pl,hz⟩:=I.list hq
    have hlen:=r'.length
    exact Calls.call_len_list pl.isList (by simp only [List.size_toArray] <;> omega) ⟨.int ys.length,H,I.tok _,⟨s.toks + 1,by rw [List.size_toArray,hlen]⟩,q⟩
  · obtain ⟨its,r',pl,hz⟩:=I.tuple hq
    have hlen:=r'.length
    exact len_tuple pl (by simp only [List.size_toArray] <;> omega) ⟨.int ys.length,H,I.tok _,⟨s.toks + 1,by rw [List.size_toArray,hlen]⟩,q⟩
theorem Yay:CallR X (.type "list") (fun xs H Q=>∃ p ys,xs=[.ref p]∧(SqL X.K H p ys∨SqT X.K H p ys)∧∀ l,H l=none→Q (.ref l) (upd H l (.lst ys))):=by
  intro pins s σ H xs us Q I r h
  obtain ⟨p,ys,rfl,hq,q⟩:=h
  obtain ⟨u,rfl,rx⟩:=Qbx r
  cases rx
  have fin:∀ (its:List Value),Vals ys its→ys.length≤sizeLine→∀ (h':Heap) (c':Nat),(∀ b o',s.heap.get? b=some o'→h'.get? b=some o') →
      h'.get? s.heap.objs.size=some {cls:=.type "list",dict:=none,data:=.seq its.toArray c',slots:=#[]}→EP X pins σ Q (.ref s.heap.objs.size) {s with heap:=h'}:=fun its r' hz h' c' kp e =>
    ⟨.ref s.heap.objs.size,_,I.laid (t':=s.toks) kp (Nat.le_refl _) (show ObjOk X.prog X.w _ h' _ (.lst ys) from ⟨hz,its,c',r',e⟩),rfl,q _ (I.hok.fresh (Nat.le_refl _))⟩
  rcases hq with hq | hq
  · obtain ⟨its,r',pl,hz⟩:=I.list hq
    have hlen:=r'.length
    obtain ⟨o,ho,hc,n,hd⟩:=pl.isList
    exact call_list_seq p (.inl rfl) ho hc hd (fun h' c' kp e=>fin its r' hz h' c' kp e) (by simp only [List.size_toArray] <;> omega)
  · obtain ⟨its,r',pl,hz⟩:=I.tuple hq
    have hlen:=r'.length
    obtain ⟨o,ho,hc,n,hd⟩:=pl
    exact call_list_seq p (.inr rfl) ho hc hd (fun h' c' kp e=>fin its r' hz h' c' kp e) (by simp only [List.size_toArray] <;> omega)
theorem Zan:CallR X (.type "tuple") (fun xs H Q=>∃ p ys,xs=[.ref p]∧((SqL X.K H p ys∧∀ l,H l=none→Q (.ref l) (upd H l (.tup ys)))∨(SqT X.K H p ys∧Q (.ref p) H))):=by
  intro pins s σ H xs us Q I r h
  obtain ⟨p,ys,rfl,h⟩:=h
  obtain ⟨u,rfl,rx⟩:=Qbx r
  cases rx
  rcases h with ⟨hq,q⟩ | ⟨hq,q⟩
  · obtain ⟨its,r',pl,hz⟩:=I.list hq
    have hlen:=r'.length
    refine call_tuple_list pl.isList (fun h' kp=>?_) (by simp only [List.size_toArray] <;> omega)
    have I1:Inv X pins σ H {s with heap:=h'}:=I.kept (t':=s.toks) kp
    have I2:Inv X pins σ (upd H h'.objs.size (.tup ys)) {s with heap:=h'.push {cls:=.type "tuple",data:=.seq its.toArray}} :=
      I1.laid (t':=s.toks) (fun b o e=>Heap.get?_push_of_some _ e) (Nat.le_refl _) (show ObjOk X.prog X.w _ _ _ (.tup ys) from ⟨hz,its,r',IsTup.new _ _⟩)
    exact ⟨.ref h'.objs.size,_,I2,rfl,q _ (I1.hok.fresh (Nat.le_refl _))⟩
  · obtain ⟨its,r',pl,hz⟩:=I.tuple hq
    exact call_tuple_same pl ⟨.ref p,H,I,rfl,q⟩
noncomputable def tyV (K:PySem.W.Frag) (T:String) (x:V) (H:Hp):Prop:=match x with
  | .str _=>T="str"
  | .int _=>T="int"
  | .ref p=>(T="list"∧∃ xs,SqL K H p xs)∨(T="tuple"∧∃ o,K.lookup p=some o∧o.cls=.type "tuple"∧o.dict=none) ∨
      (T="dict"∧((∃ kvs,H p=some (.dK kvs))∨∃ kvs,H p=some (.dT kvs)))∨(T="set"∧∃ S n,H p=some (.set S n))
  | _=>False
theorem zb7 {pins:List (Addr×Obj)} {σ:St} {H:Hp} {s:Shared} {T:String} {x:V} {v:Value} (I:Inv X pins σ H s) (r:RelV x v) (ty:tyV X.K T x H) :
    s.TypeIs v T∧∀ a,v=.ref a→∃ ob,s.heap.get? a=some ob∧ob.dict=none:=by
  cases x with
  | str z =>
    obtain ⟨t,rfl⟩:=r
    cases (show T="str" from ty)
    exact ⟨typeIs_str s z t,fun _ e=>nomatch e⟩
  | int i =>
    obtain ⟨t,rfl⟩:=r
    cases (show T="int" from ty)
    exact ⟨typeIs_int s i t,fun _ e=>nomatch e⟩
  | ref p =>
    cases r
    rcases ty with ⟨rfl,xs,hq⟩ | ⟨rfl,o,hk,hc,hd⟩ | ⟨rfl,hk⟩ | ⟨rfl,S,n,hk⟩
    · obtain ⟨its,_,pl,_⟩:=I.list hq
      refine ⟨pl.isList.typeIs,fun a e=>?_⟩
      cases e
      obtain ⟨o,n,e,c,hd,_⟩:=pl
      exact ⟨o,e,hd⟩
    · refine ⟨⟨o,I.kIn p o hk,hc⟩,fun a e=>?_⟩
      cases e
      exact ⟨o,I.kIn _ o hk,hd⟩
    · have z:∃ o,s.heap.get? p=some o∧o.ExactDict:=by
        rcases hk with ⟨kvs,hk⟩ | ⟨kvs,hk⟩
        · obtain ⟨_,_,_,_,o,_,_,e,ex,_⟩:=I.hok p _ hk
          exact ⟨o,e,ex⟩
        · obtain ⟨_,_,_,_,o,_,_,e,ex,_⟩:=I.hok p _ hk
          exact ⟨o,e,ex⟩
      obtain ⟨o,e,ex⟩:=z
      refine ⟨⟨o,e,ex.1⟩,fun a e2=>?_⟩
      cases e2
      exact ⟨o,e,ex.2.1⟩
    · obtain ⟨o,_,_,_,e,ex,_⟩:=I.hok p _ hk
      refine ⟨⟨o,e,ex.1⟩,fun a e2=>?_⟩
      cases e2
      exact ⟨o,e,ex.2.1⟩
  | _=>exact False.elim ty
noncomputable def tBM (K:PySem.W.Frag) (T:String) (r:V→List V→Hp→VK→Prop) (to:TE) (t:TA):TE:=fun σ H Q=>to σ H fun x H1=>tyV K T x H1∧t σ H1 fun xs H2=>r x xs H2 Q
variable {o e:Expr} {es:List Expr} {to:TE} {t:TA} {name:Str} {apos cpos:Pos} {T id:String} {r:V→List V→Hp→VK→Prop}
theorem pe_bm (pa:PlainAttrs T) (slot:Slot T name id) (hty:typeOf (.builtin id)=pure (.type "method_descriptor")) (hm:MtR X id r) (ho:PE X o to) (ha:PA X (e::es) t)
    (hbase:attributeBase o name X.env (eval o X.env)=eval o X.env:=by rfl)
    (hfew:((backTo cpos (starEach (e::es) X.env)).all (fun x=>!x.1)&&(backToKw cpos (keywordEach [] X.env)).all (fun x=>x.1.isSome)
      && decide ((e::es).length + ([]:List Keyword).length + (if ([]:List Keyword).isEmpty then 0 else 1) < 30))=true:=by rfl)
    (hline:(apos.endLine == cpos.line)=true:=by rfl) (hs:starEach (e::es) X.env=(false,eval e X.env)::starEach es X.env:=by rfl) (hplain:(backTo cpos (starEach es X.env)).any (·.1)=false:=by rfl) :
    PE X (.Call (.Attribute o name apos) (e::es) [] cpos) (tBM X.K T r to t):=by
  intro pins s σ H Q I h
  refine wpAny_Call_method_late hbase hfew hline rfl (thn (ho pins s σ H _ I h) fun v s1 ⟨x,H1,I1,r1,ty,q1⟩=>?_)
  obtain ⟨h1,h2⟩:=zb7 I1 r1 ty
  refine ⟨T,id,pa,slot,hty,h1,h2,?_⟩
  have hA:=ha cpos pins s1 σ H1 _ I1 q1
  rw [hs] at hA ⊢
  refine Calls.callWith_builtin (by show (false || (backTo cpos (starEach es X.env)).any (·.1))=false; rw [hplain] <;> rfl) (Calls.evalArgs_plain ?_)
  exact thn hA fun us s2 ⟨vs,H2,I2,r2,q2⟩=>hm pins s2 σ H2 x vs v us Q I2 r1 r2 q2
end
noncomputable def MtM (X:Cx) (id:String) (r:V→List V→Hp→VK→Prop):Prop :=
  ∀ (pins:List (Addr×Obj)) (s:Shared) (σ:St) (H:Hp) (x:V) (xs:List V) (v:Value) (us:List Value) (Q:VK),Inv X pins σ H s→RelV x v→Vals xs us→r x xs H Q →
    wpAny (model X.prog X.w) X.A (call (.builtin id) (v::us)) (EP X pins σ Q) X.xe s
theorem Vals.one:∀ {x:V} {us:List Value},Vals [x] us→∃ u,us=[u]∧RelV x u
  | _,_,.cons r .nil=>⟨_,rfl,r⟩
theorem Vals.dropLast {xs:List V} {us:List Value} (h:Vals xs us):Vals xs.dropLast us.dropLast:=by
  induction h with
  | nil=>exact .nil
  | cons r t ih =>
    cases t with
    | nil=>exact .nil
    | cons q t'=>exact .cons r ih
theorem Vals.rep {xs:List V} {us:List Value} (h:Vals xs us):∀ k:Nat,Vals (List.replicate k xs).flatten (List.replicate k us).flatten
  | 0=>.nil
  | k + 1=>by
    rw [List.replicate_succ,List.replicate_succ,List.flatten_cons,List.flatten_cons]
    exact Vals.append h (Vals.rep h k)
theorem zbX {α:Type} (l:List α):l.eraseIdx (l.length - 1)=l.dropLast:=by
  induction l with
  | nil=>rfl
  | cons a r ih =>
    cases r with
    | nil=>rfl
    | cons b r =>
      have e:(a::b::r).length - 1=((b::r).length - 1) + 1:=by
        have h1:(a::b::r).length=r.length + 2:=rfl
        have h2:(b::r).length=r.length + 1:=rfl
        omega
      rw [e,List.eraseIdx_cons_succ,ih]
      all_goals rfl
theorem Qas (its:List Value):∀ (k:Nat) (acc:List Value),
    List.foldl (fun x1 x2=>x1++x2) acc.toArray (List.replicate k its.toArray)=(acc++(List.replicate k its).flatten).toArray
  | 0,acc=>by simp
  | k + 1,acc=>by
    have e:acc.toArray++its.toArray=(acc++its).toArray:=by simp
    have e2:(acc++its)++(List.replicate k its).flatten=acc++(List.replicate (k + 1) its).flatten:=by
      rw [List.replicate_succ,List.flatten_cons,List.append_assoc]
    rw [← e2,← Qas its k (acc++its),← e,List.replicate_succ,List.foldl_cons]
section
variable {X:Cx} {pins:List (Addr×Obj)} {σ:St} {H:Hp} {s:Shared} {l b:Addr} {xs ys zs:List V}
theorem Inv.lset {its its':List Value} {n:Nat} {f:Array Value→Array Value} {t':Nat} (I:Inv X pins σ H s) (hH:H l=some (.lst xs))
    (e:s.heap.get? l=some {cls:=.type "list",data:=.seq its.toArray n}) (hf:f its.toArray=its'.toArray) (hv:Vals ys its') (hz:ys.length≤sizeLine) :
    Inv X pins σ (upd H l (.lst ys)) {s with heap:=s.heap.update l (Obj.mapSeq f),toks:=t'}:=by
  have q:=PySem.IsL.update e f
  rw [hf] at q
  refine I.write (x:=l) (e:=l) (by rw [hH]; exact trivial) (.inl rfl) (fun b' u hb hu=>(Heap.get?_update_other s.heap (Obj.mapSeq f) (Ne.symm hb)).trans hu) ⟨_,q⟩ ?_
  exact ⟨hz,its',_,hv,q⟩
theorem Inv.lnew {its:List Value} {t':Nat} (I:Inv X pins σ H s) (hv:Vals ys its) (hz:ys.length≤sizeLine) :
    Inv X pins σ (upd H s.heap.objs.size (.lst ys)) {s with heap:=s.heap.push {cls:=.type "list",data:=.seq its.toArray},toks:=t'} :=
  I.laid (fun _ _ q=>Heap.get?_push_of_some _ q) (Nat.le_refl _) ⟨hz,its,0,hv,Heap.get?_push_size _ rfl⟩
theorem Inv.fresh (I:Inv X pins σ H s):H s.heap.objs.size=none:=I.hok.fresh (Nat.le_refl _)
theorem Inv.lstM (I:Inv X pins σ H s) (hH:H l=some (.lst xs)):xs.length≤sizeLine∧∃ (its:List Value) (n:Nat),Vals xs its∧xs.length=its.length∧s.heap.get? l=some {cls:=.type "list",data:=.seq its.toArray n}:=by
  obtain ⟨z,its,n,r,e⟩:=I.hok l _ hH
  exact ⟨z,its,n,r,r.length,e⟩
theorem QaM {n:Nat} (h:n≤sizeLine):Builtin.List.listTooLong n=false:=by
  unfold Builtin.List.listTooLong
  exact decide_eq_false (by omega)
end
section
variable {X:Cx}
noncomputable def qbz:V→List V→Hp→VK→Prop:=fun x vs H Q=>∃ l xs y,x=.ref l∧vs=[y]∧H l=some (.lst xs)∧xs.length < sizeLine∧Q .non (upd H l (.lst (xs++[y])))
theorem zbb:MtM X "list.append" qbz:=by
  intro pins s σ H x vs v us Q I rx rv h
  obtain ⟨l,xs,y,rfl,rfl,hH,hz,q⟩:=h
  cases rx
  obtain ⟨u,rfl,ru⟩:=rv.one
  obtain ⟨z,its,n,r,hl,e⟩:=I.lstM hH
  refine call_meets F.slot_list_append ⟨_,e,rfl⟩ F.entry_list_append (F.args_list_append_2 _ _) (PySem.list_append l its.toArray n u (by rw [List.size_toArray]; omega)) ⟨e,?_⟩
  refine ⟨.non,_,I.lset (its':=its++[u]) hH e (by simp) (r.append (.cons ru .nil)) ?_,rfl,q⟩
  rw [List.length_append,List.length_singleton]
  omega
noncomputable def rExtend:V→List V→Hp→VK→Prop:=fun x vs H Q=>∃ l b xs zs,x=.ref l∧vs=[.ref b]∧H l=some (.lst xs)∧H b=some (.lst zs)∧xs.length + zs.length≤sizeLine∧Q .non (upd H l (.lst (xs++zs)))
noncomputable def rPop:V→List V→Hp→VK→Prop:=fun x vs H Q=>∃ l xs y,x=.ref l∧vs=[]∧H l=some (.lst xs)∧xs[xs.length - 1]?=some y∧Q y (upd H l (.lst xs.dropLast))
theorem QbE {α:Type} (xs:List α) (k:Nat):(List.replicate k xs).flatten.length=k * xs.length:=by
  induction k with
  | zero=>simp
  | succ k ih=>rw [List.replicate_succ,List.flatten_cons,List.length_append,ih,Nat.succ_mul,Nat.add_comm]
end
end L2
namespace Att
open PySem PySem.W PySem.Calls PyProof.Rows
theorem Y7 {P:Params} {h:Heap}:∀ (ns:List Int) (vs:List Value),WellAll P h vs (ns.map WData.int)→IntsAre vs ns:=by
  intro ns
  induction ns with
  | nil =>
    intro vs w
    rw [List.map_nil] at w
    cases w
    exact .nil
  | cons n ns ih =>
    intro vs w
    rw [List.map_cons] at w
    cases w with
    | cons a b =>
      cases a
      exact .cons _ _ (ih _ b)
theorem Qbg {l:OpenLaw} {n:Nat} (hn:l.most=some n) {P:Params} {h:Heap} {args:List WData} {vals:List Value}
    (hpre:l.row.toRowW.claim.pre args=true) (hwl:WellAll P h vals args) :
    ∃ a vs ns,vals=[Value.ref a]∧args=[WData.list (ns.map WData.int)]∧h.get? a=some {cls:=.type "list",data:=.seq vs.toArray}∧IntsAre vs ns∧ns.length≤n:=by
  have hsh:WShape.hasAll [] args [.list .int]=true:=(pre_splitW hpre).1
  have hc:l.pre.holds [] {args:=args}=true:=(pre_splitW hpre).2
  obtain ⟨d,r,rfl,h1,h2⟩:=hasAllW_cons hsh
  obtain rfl:=hasAllW_nil h2
  obtain ⟨xs,rfl,h3⟩:=hasW_list h1
  obtain ⟨ns,rfl⟩:=items_int h3
  have hlen:ns.length≤n:=by
    unfold OpenLaw.pre at hc
    have h4:(WTm.not (.lt (.lit (.int (n:Int))) (.len (.arg 0)))).holds [] {args:=[.list (ns.map .int)]}=true:=by
      have h4:=(holds_andW hc).1
      rw [hn] at h4
      exact h4
    have h5:=condW_of h4 (w_not (w_lt w_lit (w_len_list (w_arg rfl))))
    rw [List.length_map] at h5
    refine Nat.le_of_not_lt fun q=>?_
    have q':(n:Int) < ((ns.length:Nat):Int):=by omega
    first
      | (rw [decide_eq_true q'] at h5; exact absurd h5 (by decide))
      | (simp at h5; omega)
  cases hwl with
  | cons w1 w2 =>
    cases w2
    cases w1 with
    | list ho hall=>exact ⟨_,_,ns,rfl,rfl,ho,Y7 ns _ hall,hlen⟩
theorem Zbb (l:OpenLaw) (args:List WData):l.row.toRowW.claim.post args (.bool true) args=true :=
  postW_of (r:=l.row.toRowW) (X:=(true == true))
    (show WShape.has [] (.bool true) .bool=true by first | rfl | decide | simp [WShape.has,WShape.arms,WShape.armsAll])
    (show (WTm.eq .res (.lit (.bool true))).value [] {args:=args,res:=some (.bool true),after:=args}=some (.bool (true == true)) from w_eq_bool (w_res rfl) w_lit) rfl
theorem attach_call {l:OpenLaw} {n:Nat} {q:Program} {loose:List Str} {XP:(Str→Option Value)→Heap→Prop} {YP:World→Heap→Prop} {d:DefRec}
    (hn:l.most=some n) (hdf:d.params.defaults=[])
    (call:∀ (w:World) (s₀ s₁:Shared) (mg mb:Str→Option Value) (fa:Addr) (o:Obj) (pm cd doc:Value) (a:Addr) (vs:List Value) (ns:List Int),
      Ground q loose [] XP w s₀ mg mb s₁.heap→YP w s₁.heap →
      s₁.heap.get? fa=some o→o.data=.func (docDef d.name d.params d.body d.scope pm cd doc)→s₁.heap.CodeRec cd d.name→mg d.name=some (.ref fa) →
      s₁.heap.get? a=some {cls:=.type "list",data:=.seq vs.toArray}→IntsAre vs ns→ns.length≤n→s₁.gens=#[] →
      codeAny (model l.prog w) callerA (.call (.ref fa) ⟨[.ref a],[]⟩) (fun r s'=>r=.ok (.ret (.bool true))∧OldK s₁.heap s'.heap∧s'.os=s₁.os∧AllBare s'.gens) s₁) :
    WalkO q loose XP YP l.row.toRowW d [] (fun f vs=>PySem.call f vs):=by
  intro w s₀ s₁ mg mb G Y fa o pm cd doc dV kV ho hd hcd hD hmg hg args vals as hpre hlay hrd hwl hlo
  obtain rfl:dV=.none:=Dflts.none hD hdf
  obtain rfl:kV=.none:=Dflts.noKw hD
  obtain ⟨a,vs,ns,rfl,rfl,hobj,hints,hlen⟩:=Qbg hn hpre hwl
  refine enter_call (codeAny_mono (call w s₀ s₁ mg mb fa o pm cd doc a vs ns G Y ho (fd_plain hd) hcd hmg hobj hints hlen hg) fun r s' hq=>?_)
  obtain ⟨rfl,h2,h3,h4⟩:=hq
  exact ⟨.inl ⟨.bool true,.bool true,[],rfl,fun _=>rfl,.bool true,Zbb l _,fun _=>⟨List.Pairwise.nil,fun _ hm=>(nomatch hm)⟩⟩,h2,h3,h4⟩
end Att
namespace L2
open PySem PySem.Spec PyProof.Rows
theorem qat:∀ {vs:List Value} {ns:List Int},IntsAre vs ns→Vals (ns.map V.int) vs
  | _,_,.nil=>.nil
  | _,_,.cons n t h=>.cons ⟨t,rfl⟩ (qat h)
noncomputable abbrev KOf {K:PySem.W.Frag} {h:Heap} (_:K.In h):PySem.W.Frag:=K
noncomputable def YbB (s:Stmt) (j:Nat):Stmt:=match s with
  | .ClassDef _ _ _ body _ _ _ _ _ _ _=>body.getD j (.Pass ⟨0,0,0,0⟩)
  | _=>.Pass ⟨0,0,0,0⟩
noncomputable def yj (s:Stmt):Arguments:=match s with
  | .FunctionDef _ a _ _ _ _ _ _ _ _=>a
  | _=>{posonlyargs:=[],args:=[],vararg:=none,kwonlyargs:=[],kw_defaults:=[],kwarg:=none,defaults:=[]}
noncomputable def Yg (s:Stmt):List Stmt:=match s with
  | .FunctionDef _ _ b _ _ _ _ _ _ _=>b
  | _=>[]
noncomputable def yc (s:Stmt):Scope:=match s with
  | .FunctionDef _ _ _ _ _ _ sc _ _ _=>sc
  | _=>{kind:=.function,names:=[],isGenerator:=false,isCoroutine:=false}
noncomputable abbrev CX0:CXT:=fun _ _ _ _ _ _=>False
noncomputable abbrev E0:XK:=fun _ _ _=>False
structure Fun (K:PySem.W.Frag) (x qual:Str) (st:Stmt) (f:Addr) (fd:FuncData):Prop where
  ex:∃ (oc:Value) (od:Option Addr) (kV doc pm:Value) (an:Option Addr) (cdv ct:Value) (osl:Array (Option Value)),
    fd=PySem.W.fnOf x qual (yj st) (Yg st) (yc st) .none kV doc pm an cdv ct∧K.lookup f=some ⟨oc,od,.func fd,osl⟩∧PySem.W.codeIn K cdv qual=true
  kp:PySem.W.keepIn K (.ref f)=true
section
variable {P:Program} {w:World} {K:PySem.W.Frag} {mg:Str→Option Value} {base:Heap}
theorem Fun.binds {x qual:Str} {st:Stmt} {f:Addr} {fd:FuncData} {ps:List Str} (F:Fun K x qual st f fd)
    (h:∀ (kV doc pm:Value) (an:Option Addr) (cdv ct:Value) (us:List Value),us.length=ps.length→bindArgs (PySem.W.fnOf x qual (yj st) (Yg st) (yc st) .none kV doc pm an cdv ct) ⟨us,[]⟩=pure (ps.zip us)):Binds K fd ps []:=by
  obtain ⟨oc,od,kV,doc,pm,an,cdv,ct,osl,rfl,lk,hcd⟩:=F.ex
  exact .all (h kV doc pm an cdv ct)
theorem ZaE {x qual:Str} {st:Stmt} {f:Addr} {oc:Value} {od an:Option Addr} {osl:Array (Option Value)} {kV doc pm cdv ct:Value} (l:K.lookup f=some ⟨oc,od,.func (PySem.W.fnOf x qual (yj st) (Yg st) (yc st) .none kV doc pm an cdv ct),osl⟩)
    (c:PySem.W.codeIn K cdv qual=true) (k:PySem.W.keepIn K (.ref f)=true):Fun K x qual st f (PySem.W.fnOf x qual (yj st) (Yg st) (yc st) .none kV doc pm an cdv ct):=⟨⟨oc,od,kV,doc,pm,an,cdv,ct,osl,rfl,l,c⟩,k⟩
end
noncomputable def Same (H H':Hp):Prop:=∀ b o,H b=some o→H' b=some o
section
variable {κ:Type} [DecidableEq κ]
noncomputable def zaa (kvs:List (κ×V)) (k:κ):Option V:=(kvs.find? fun kv=>decide (kv.1=k)).map (·.2)
noncomputable def QC (kvs:List (κ×V)) (k:κ) (v:V):List (κ×V) :=
  if (kvs.any fun kv=>decide (kv.1=k))=true then kvs.map (fun kv=>if kv.1=k then (kv.1,v) else kv) else kvs++[(k,v)]
theorem Yaf {p:κ×V} {r:List (κ×V)} {k:κ} (e:p.1=k):zaa (p::r) k=some p.2:=by simp [zaa,List.find?_cons,e]
theorem Qah {p:κ×V} {r:List (κ×V)} {k:κ} (e:¬ p.1=k):zaa (p::r) k=zaa r k:=by simp [zaa,List.find?_cons,e]
theorem YaH (k:κ):∀ kvs:List (κ×V),(kvs.any fun kv=>decide (kv.1=k))=(zaa kvs k).isSome
  | []=>rfl
  | p::r=>by
    rw [List.any_cons]
    by_cases e:p.1=k
    · simp only [Yaf e,decide_eq_true e,Bool.true_or,Option.isSome_some]
    · rw [Qah e,decide_eq_false e,Bool.false_or]; exact YaH k r
theorem zJ (kvs:List (κ×V)) (k:κ) (v:V):(QC kvs k v).length≤kvs.length + 1:=by
  unfold QC
  split
  · rw [List.length_map]; omega
  · rw [List.length_append,List.length_cons,List.length_nil]; omega
theorem RelO.isSome_eq {o:Option V} {u:Option Value} (r:RelO o u):o.isSome=u.isSome:=by
  cases o with
  | none=>cases u with
    | none=>rfl
    | some _=>exact (show False from r).elim
  | some _=>cases u with
    | none=>exact (show False from r).elim
    | some _=>rfl
theorem RelO.getD {o:Option V} {u:Option Value} {d:V} {d':Value} (r:RelO o u) (rd:RelV d d'):RelV (o.getD d) (u.getD d'):=by
  cases o with
  | none=>cases u with
    | none=>exact rd
    | some _=>exact (show False from r).elim
  | some _=>cases u with
    | none=>exact (show False from r).elim
    | some _=>exact r
theorem KV.val {kvs:List (κ×V)} {vs:List (κ×Value)} (r:KV kvs vs) (k:κ):RelO (zaa kvs k) (valueAt vs k):=by
  unfold KV at r
  induction r with
  | nil=>exact True.intro
  | @cons p q ps qs h t ih =>
    obtain ⟨h1,h2⟩:=h
    by_cases e:p.1=k
    · have e':q.1=k:=h1.symm.trans e
      have b:valueAt (q::qs) k=some q.2:=by simp [valueAt,List.find?_cons,e']
      rw [Yaf e,b]; exact h2
    · have e':¬ q.1=k:=fun z=>e (h1.trans z)
      have b:valueAt (q::qs) k=valueAt qs k:=by simp [valueAt,List.find?_cons,e']
      rw [Qah e,b]; exact ih
theorem KV.any {kvs:List (κ×V)} {vs:List (κ×Value)} (r:KV kvs vs) (k:κ):(kvs.any fun kv=>decide (kv.1=k))=vs.any fun kv=>decide (kv.1=k):=by
  unfold KV at r
  induction r with
  | nil=>rfl
  | cons h t ih=>rw [List.any_cons,List.any_cons,ih,h.1]
theorem KV.repl {kvs:List (κ×V)} {vs:List (κ×Value)} (r:KV kvs vs) (k:κ) {y:V} {u:Value} (ry:RelV y u) :
    KV (kvs.map fun kv=>if kv.1=k then (kv.1,y) else kv) (vs.map fun kv=>if kv.1=k then (kv.1,u) else kv):=by
  unfold KV at r ⊢
  induction r with
  | nil=>exact .nil
  | @cons p q ps qs h t ih =>
    rw [List.map_cons,List.map_cons]
    refine .cons ?_ ih
    obtain ⟨h1,h2⟩:=h
    by_cases e:p.1=k
    · rw [if_pos e,if_pos (h1.symm.trans e)]; exact ⟨h1,ry⟩
    · rw [if_neg e,if_neg (fun z=>e (h1.trans z))]; exact ⟨h1,h2⟩
theorem KV.put {kvs:List (κ×V)} {vs:List (κ×Value)} (r:KV kvs vs) (k:κ) {y:V} {u:Value} (ry:RelV y u):KV (QC kvs k y) (stored vs k u):=by
  unfold QC stored
  rw [r.any k]
  by_cases e:(vs.any fun kv=>decide (kv.1=k))=true
  · rw [if_pos e,if_pos e]; exact r.repl k ry
  · rw [if_neg e,if_neg e]; exact Paired.snoc r ⟨rfl,ry⟩
theorem KV.keys {kvs:List (κ×V)} {vs:List (κ×Value)} (r:KV kvs vs):kvs.map (·.1)=vs.map (·.1):=by
  unfold KV at r
  induction r with
  | nil=>rfl
  | cons h t ih=>rw [List.map_cons,List.map_cons,ih,h.1]
theorem KV.length {kvs:List (κ×V)} {vs:List (κ×Value)} (r:KV kvs vs):kvs.length=vs.length:=Paired.length r
end
theorem YaJ {P:Program} {w:World} {k:Key} {u:Value} (r:RelV (kV k) u):(Qg P w).is k u=true:=by
  cases k with
  | inl i=>obtain ⟨t,e⟩:=(show ∃ t,u=Value.int i t from r); subst e; exact qaK P w i t
  | inr x=>obtain ⟨t,e⟩:=(show ∃ t,u=Value.str x t from r); subst e; exact ZaJ P w x t
theorem Zat {P:Program} {w:World}:∀ {ks:List Key} {us:List Value},Vals (ks.map kV) us→ItemsAre (Qg P w) ks us
  | [],_,r=>by rw [List.map_nil] at r; cases r; exact .nil
  | k::ks,_,r=>by
    rw [List.map_cons] at r
    cases r with
    | cons h t=>exact .cons (YaJ h) (Zat t)
noncomputable abbrev KT (H:Hp):List (List Key×V)→List (List Key×Addr×Value)→Prop:=Paired fun p q=>p.1=q.1∧H q.2.1=some (.tup (p.1.map kV))∧RelV p.2 q.2.2
theorem KT.val {H:Hp} {kvs:List (List Key×V)} {xs:List (List Key×Addr×Value)} (r:KT H kvs xs) (k:List Key):RelO (zaa kvs k) ((atKey xs k).map (·.2)):=by
  induction r with
  | nil=>exact True.intro
  | @cons p q ps qs h t ih =>
    obtain ⟨h1,_,h2⟩:=h
    by_cases e:p.1=k
    · have e':q.1=k:=h1.symm.trans e
      have b:atKey (q::qs) k=some q.2:=by simp [atKey,List.find?_cons,e']
      rw [Yaf e,b]; exact h2
    · have e':¬ q.1=k:=fun z=>e (h1.trans z)
      have b:atKey (q::qs) k=atKey qs k:=by simp [atKey,List.find?_cons,e']
      rw [Qah e,b]; exact ih
theorem KT.repl {H:Hp} {kvs:List (List Key×V)} {xs:List (List Key×Addr×Value)} (r:KT H kvs xs) (k:List Key) {y:V} {u:Value} (ry:RelV y u) :
    KT H (kvs.map fun kv=>if kv.1=k then (kv.1,y) else kv) (xs.map (putAt k u)):=by
  induction r with
  | nil=>exact .nil
  | @cons p q ps qs h t ih =>
    rw [List.map_cons,List.map_cons]
    refine .cons ?_ ih
    obtain ⟨h1,h2,h3⟩:=h
    unfold putAt
    by_cases e:p.1=k
    · rw [if_pos e,if_pos (h1.symm.trans e)]; exact ⟨h1,h2,ry⟩
    · rw [if_neg e,if_neg (fun z=>e (h1.trans z))]; exact ⟨h1,h2,h3⟩
theorem KT.put {H:Hp} {kvs:List (List Key×V)} {xs:List (List Key×Addr×Value)} (r:KT H kvs xs) (k:List Key) {b:Addr} {y:V} {u:Value} (hb:H b=some (.tup (k.map kV))) (ry:RelV y u) :
    KT H (QC kvs k y) (storedH xs k b u):=by
  have e:(kvs.any fun kv=>decide (kv.1=k))=(atKey xs k).isSome:=by
    rw [YaH,(r.val k).isSome_eq,Option.isSome_map]
  unfold QC storedH
  rw [e]
  by_cases q:(atKey xs k).isSome=true
  · rw [if_pos q,if_pos q]; exact r.repl k ry
  · rw [if_neg q,if_neg q]; exact Paired.snoc r ⟨rfl,hb,ry⟩
theorem KT.keeps {H H':Hp} {kvs:List (List Key×V)} {xs:List (List Key×Addr×Value)} (r:KT H kvs xs) (ht:∀ b ys,H b=some (.tup ys)→H' b=some (.tup ys)):KT H' kvs xs :=
  Paired.mapP r fun _ _ z=>⟨z.1,ht _ _ z.2.1,z.2.2⟩
section
variable {P:Program} {w:World} {H:Hp} {h:Heap} {a:Addr}
theorem ybP {u:HO} (ok:HOk P w H h) (e:Rd H a u):ObjOk P w H h a u:=e.ok ok
theorem zaI {kvs:List (Key×V)} (ok:HOk P w H h) (e:Rd H a (.dK kvs)):kvs.length≤sizeLine∧(a == sysModules)=false∧∃ vs,KV kvs vs∧h.DictOf (Qg P w) a vs :=
  show ObjOk P w H h a (.dK kvs) from ybP ok e
theorem ybw {kvs:List (Key×V)} (ok:HOk P w H h) (e:H a=some (.dK kvs)):kvs.length≤sizeLine∧(a == sysModules)=false∧∃ vs,KV kvs vs∧h.DictOf (Qg P w) a vs:=zaI ok (.inl e)
theorem ZaA {ks:List Key} (ok:HOk P w H h) (e:H a=some (.tup (ks.map kV))):(tupleKind (Qg P w)).is h ks a:=by
  obtain ⟨_,its,r,o,h1,h2,n,h3⟩:=(show ObjOk P w H h a (.tup (ks.map kV)) from ok a _ e)
  exact ⟨o,its.toArray,n,h1,h2,h3,by simpa using Zat r⟩
theorem qaF {kvs:List (List Key×V)} (ok:HOk P w H h) (e:Rd H a (.dT kvs)):kvs.length≤sizeLine∧(a == sysModules)=false ∧
    ∃ xs,KT H kvs xs∧h.DictOfH (tupleKind (Qg P w)) a xs:=by
  obtain ⟨z,y,xs,r,o,es,ep,h1,h2,h3,h4,h5⟩:=(show ObjOk P w H h a (.dT kvs) from ybP ok e)
  refine ⟨z,y,xs,r,o,es,ep,h1,h2,h3,h4,fun x hx=>?_,h5⟩
  have all:∀ {l:List (List Key×V)} {m:List (List Key×Addr×Value)},KT H l m→∀ x∈m,(tupleKind (Qg P w)).is h x.1 x.2.1:=by
    intro l m q
    induction q with
    | nil=>intro x hx; exact nomatch hx
    | @cons p q ps qs hq t ih =>
      intro x hx
      rcases List.mem_cons.mp hx with e | hx
      · subst e
        exact ZaA ok (by rw [← hq.1]; exact hq.2.1)
      · exact ih x hx
  exact all r x hx
theorem dt_of {kvs:List (List Key×V)} (ok:HOk P w H h) (e:H a=some (.dT kvs)):kvs.length≤sizeLine∧(a == sysModules)=false ∧
    ∃ xs,KT H kvs xs∧h.DictOfH (tupleKind (Qg P w)) a xs:=qaF ok (.inl e)
end
noncomputable def qbx (H:Hp) (a:Addr) (y:V) (r:Option V):Prop :=
  (∃ kvs k,Rd H a (.dK kvs)∧y=kV k∧r=zaa kvs k)∨∃ kvs k b,Rd H a (.dT kvs)∧y=.ref b∧H b=some (.tup (k.map kV))∧r=zaa kvs k
noncomputable def DPut (H:Hp) (a:Addr) (y v:V) (H':Hp):Prop :=
  (∃ kvs k,H a=some (.dK kvs)∧y=kV k∧kvs.length < sizeLine∧H'=upd H a (.dK (QC kvs k v))) ∨
  ∃ kvs k b,H a=some (.dT kvs)∧y=.ref b∧H b=some (.tup (k.map kV))∧kvs.length < sizeLine∧H'=upd H a (.dT (QC kvs k v))
theorem DPut.k {H:Hp} {a:Addr} {kvs:List (Key×V)} {k:Key} {v:V} (e:H a=some (.dK kvs)) (hl:kvs.length < sizeLine):DPut H a (kV k) v (upd H a (.dK (QC kvs k v))):=.inl ⟨kvs,k,e,rfl,hl,rfl⟩
theorem DPut.t {H:Hp} {a b:Addr} {kvs:List (List Key×V)} {k:List Key} {v:V} (e:H a=some (.dT kvs)) (eb:H b=some (.tup (k.map kV))) (hl:kvs.length < sizeLine) :
    DPut H a (.ref b) v (upd H a (.dT (QC kvs k v))):=.inr ⟨kvs,k,b,e,rfl,eb,hl,rfl⟩
section
variable {X:Cx} {pins:List (Addr×Obj)} {σ:St} {H:Hp} {s:Shared} {a:Addr} {y v:V} {u r:Value} {o:Option V} {A:Around} {E:Value→Shared→Prop}
theorem Inv.big (I:Inv X pins σ H s):sysModules < s.heap.objs.size:=by
  have h:mainGlobals < s.heap.objs.size:=(I.mod.glob.keeps I.bk).lt
  exact Nat.lt_trans (by decide) h
theorem za9 {Q:Value→Shared→Prop} (hu:A.units + 1 < cLine) (I:Inv X pins σ H s) (g:qbx H a y (some v)) (ry:RelV y u) (h:∀ w' s',Inv X pins σ H s'→RelV v w'→Q w' s') :
    wpAny (model X.prog X.w) A (getItem (.ref a) u) Q E s:=by
  rcases g with ⟨kvs,k,e,ey,l⟩ | ⟨kvs,k,b,e,ey,eb,l⟩
  · subst ey
    obtain ⟨z,hd,vs,rel,dd⟩:=zaI I.hok e
    obtain ⟨w',hw,rw'⟩:=RelO.some_of (v:=v) (o:=valueAt vs k) (by rw [l]; exact rel.val k)
    exact wpAny_getItem_of (YaJ ry) dd.mapOf hw (h w' _ (I.tok _) rw')
  · subst ey
    cases (show u=Value.ref b from ry)
    obtain ⟨z,hd,xs,rel,dd⟩:=qaF I.hok e
    obtain ⟨w',hw,rw'⟩:=RelO.some_of (v:=v) (o:=(atKey xs k).map (·.2)) (by rw [l]; exact rel.val k)
    obtain ⟨p,hp,hp2⟩:=Option.map_eq_some_iff.mp hw
    refine wpAny_getItem_heap (tupleKind_room_in1 hu) (ZaA I.hok eb) dd hp ?_
    rw [hp2]
    exact h w' _ (I.tok _) rw'
theorem zaD {h':Heap} {t':Nat} {ob:HO} (I:Inv X pins σ H s) (mu:Mut (H a)) (hs:Heap.SameBut a s.heap h') (he:∃ q,h'.get? a=some q) (new:ObjOk X.prog X.w (upd H a ob) h' a ob) :
    Inv X pins σ (upd H a ob) {s with heap:=h',toks:=t'} :=
  I.write (x:=a) (e:=a) mu (.inl rfl) (fun b q hb z=>(hs.2 b hb).trans z) he new
theorem zbp {P:Program} {w:World} {H':Hp} {h':Heap} {kvs:List (Key×V)} {vs:List (Key×Value)} (z:kvs.length≤sizeLine) (hd:(a == sysModules)=false) (rel:KV kvs vs) (dd:h'.DictOf (Qg P w) a vs) :
    ObjOk P w H' h' a (.dK kvs):=⟨z,hd,vs,rel,dd⟩
theorem qa9 {H':Hp} {Q:Unit→Shared→Prop} (hu:A.units + 1 < cLine) (I:Inv X pins σ H s) (g:DPut H a y v H') (ry:RelV y u) (rv:RelV v r) (h:∀ s',Inv X pins σ H' s'→Q () s') :
    wpAny (model X.prog X.w) A (setItem (.ref a) u r) Q E s:=by
  rcases g with ⟨kvs,k,e,ey,l,eH⟩ | ⟨kvs,k,b,e,ey,eb,l,eH⟩
  · subst ey eH
    obtain ⟨z,hd,vs,rel,dd⟩:=ybw I.hok e
    have hz:vs.length≤sizeLine:=by rw [← rel.length]; exact z
    have hl:(QC kvs k v).length≤sizeLine:=by have:=zJ kvs k v; omega
    refine wpAny_setItem_pairs (hsz:=hz) (YaJ ry) dd fun h' dd' hs=>h _ ?_
    have he:∃ q,h'.get? a=some q:=let ⟨q,_,_,hq,_⟩:=dd'; ⟨q,hq⟩
    exact zaD I (by rw [e]; exact True.intro) hs he (zbp hl hd (rel.put k rv) dd')
  · subst ey eH
    cases (show u=Value.ref b from ry)
    obtain ⟨z,hd,xs,rel,dd⟩:=dt_of I.hok e
    have hz:xs.length≤sizeLine:=by rw [← Paired.length rel]; exact z
    have hl:(QC kvs k v).length≤sizeLine:=by have:=zJ kvs k v; omega
    refine wpAny_setItem_heap (hsz:=hz) (tupleKind_room_in1 hu) (ZaA I.hok eb) dd fun h' dd' hs=>h _ ?_
    obtain ⟨q,es,ep,hq,h2,h3,h4,_,h5⟩:=dd'
    refine zaD I (by rw [e]; exact True.intro) hs ⟨q,hq⟩ ⟨hl,hd,_,(rel.put k eb rv).keeps fun c ys ec=>?_,q,es,ep,hq,h2,h3,h4,h5⟩
    rw [Zb (ne_of ec e (fun z=>nomatch z))]
    exact ec
end
noncomputable def NoSl (i:Expr):Prop:=∀ ov iv,subscripted i false ov iv=operate [ov,iv] (getItem ov iv)
theorem qbH {prog:Program} {w:World} {A:Around} {E:Value→Shared→Prop} {s:Shared} {env:Env} {value slice:Expr} {pos:Pos} {T id:String} {Q:Value→Shared→Prop}
    (hl:typeLookup (.type T) "__getitem__"=pure (some (.builtin id))) (hs:NoSl slice)
    (h:wpAny (model prog w) A (eval value env) (fun o s₁=>wpAny (model prog w) A (eval slice env) (fun i s₂=>s₂.TypeIs o T∧wpAny (model prog w) A (getItem o i) Q E s₂) E s₁) E s) :
    wpAny (model prog w) A (eval (.Subscript value slice pos) env) Q E s:=by
  refine Subscript_ (wpAny_mono h (fun o s₁ h₁=>wpAny_mono h₁ (fun i s₂ h₂=>?_) fun _ _ x=>x) fun _ _ x=>x)
  obtain ⟨hT,h₂⟩:=h₂
  unfold subscriptTail
  refine wpAny_bind ?_
  rw [getitemInPython_of_ne hT.not_modules]
  refine wpAny_bind (wpAny_specialOf hT hl ?_)
  have fin:wpAny (model prog w) A (subscripted slice false o i) (fun r s₃=>wpAny (model prog w) A (letTemporaryGo value o r >>= fun _=>pure r) Q E s₃) E s₂:=by
    rw [hs o i]
    exact wpAny_operating (wpAny_mono h₂ (fun r s₃ h₃=>wpAny_bind (wpAny_letTemporaryGo (wpAny_pure h₃))) fun _ _ x=>x)
  first
    | exact wpAny_pure (wpAny_bind fin)
    | exact wpAny_bind (wpAny_pure (wpAny_bind fin))
    | exact wpAny_bind fin
theorem qaH {X:Cx} {pins:List (Addr×Obj)} {σ:St} {H:Hp} {s:Shared} {a:Addr} {y:V} {o:Option V} (I:Inv X pins σ H s) (g:qbx H a y o):s.TypeIs (.ref a) "dict":=by
  rcases g with ⟨kvs,k,e,_,_⟩ | ⟨kvs,k,b,e,_,_,_⟩
  · obtain ⟨_,_,vs,_,dd⟩:=zaI I.hok e
    exact dd.typeIs
  · obtain ⟨_,_,xs,_,dd⟩:=qaF I.hok e
    exact dd.typeIs
noncomputable def tDGet (td ty:TE):TE:=fun σ H Q=>td σ H fun x H1=>ty σ H1 fun y H2=>∃ a v,x=.ref a∧qbx H2 a y (some v)∧Q v H2
noncomputable def sDPut (td ty tv:TE):TS:=fun D σ H=>tv σ H fun v H1=>td σ H1 fun x H2=>ty σ H2 fun y H3=>∃ a H4,x=.ref a∧DPut H3 a y v H4∧D.nx σ H4
section
variable {X:Cx} {o i e value:Expr} {pos pos' tpos:Pos} {td ty tv:TE}
theorem YbN (hu:X.A.units + 1 < cLine) (ho:PE X o td) (hi:PE X i ty) (hs:NoSl i):PE X (.Subscript o i pos) (tDGet td ty):=by
  intro pins s σ H Q I h
  refine qbH PySem.F.slot_dict_getitem.lookup hs (thn (ho pins s σ H _ I h) fun u s1 ⟨x,H1,I1,rx,q1⟩=>thn (hi pins s1 σ H1 _ I1 q1) fun iv s2 ⟨y,H2,I2,ry,a,v,ex,g,q2⟩=>?_)
  subst ex
  obtain rfl:u=Value.ref a:=rx
  exact ⟨qaH I2 g,za9 hu I2 g ry fun w' s3 I3 rw'=>⟨v,H2,I3,rw',q2⟩⟩
theorem Ya3 (hu:X.A.units + 1 < cLine) (ho:PE X o td) (hi:PE X i ty) (hv:PE X value tv) (hs:swapsWith value (some (.Subscript o i pos')) pos.line X.env=pure false) :
    PS X (.Assign [.Subscript o i pos'] value pos) (sDPut td ty tv):=by
  intro pins s σ H D I h
  refine wpAny_Assign_Subscript (thn (hv pins s σ H _ I h) fun r s1 ⟨v,H1,I1,rv,q1⟩=>thn (ho pins s1 σ H1 _ I1 q1) fun u s2 ⟨x,H2,I2,rx,q2⟩=>thn (hi pins s2 σ H2 _ I2 q2) fun iv s3 ⟨y,H3,I3,ry,a,H4,ex,g,q3⟩=>?_) hs
  subst ex
  obtain rfl:u=Value.ref a:=rx
  exact qa9 hu I3 g ry rv fun s4 I4=>⟨σ,H4,I4,q3⟩
end
theorem Qbp {P:Program} {w:World} {H:Hp} (h:Heap) (hb:sysModules < h.objs.size):ObjOk P w H (h.push {cls:=.type "dict",data:=.dict #[]}) h.objs.size (.dK []) :=
  ⟨Nat.zero_le _,beq_eq_false_iff_ne.mpr (Ne.symm (Nat.ne_of_lt hb)),[],.nil,Heap.DictOf.new h⟩
theorem Ybl {P:Program} {w:World} {H:Hp} (h:Heap) (hb:sysModules < h.objs.size):ObjOk P w H (h.push {cls:=.type "dict",data:=.dict #[]}) h.objs.size (.dT []) :=
  ⟨Nat.zero_le _,beq_eq_false_iff_ne.mpr (Ne.symm (Nat.ne_of_lt hb)),[],.nil,_,#[],0,Heap.get?_push_size _ rfl,⟨rfl,rfl,rfl⟩,rfl,rfl,List.nodup_nil⟩
noncomputable def zbY:TE:=fun _ H Q=>∀ p,H p=none→Q (.ref p) (upd H p (.dT []))
section
variable {X:Cx} {pos:Pos}
theorem Ybp:PE X (.Dict [] [] pos) zbY:=fun pins s σ H Q I h =>
  wpAny_Dict_empty ⟨.ref s.heap.objs.size,_,I.laid (a:=s.heap.objs.size) (o:=.dT []) (t':=s.toks) (fun _ _ q=>Heap.get?_push_of_some _ q) (Nat.le_refl _) (Ybl s.heap I.big),rfl,h _ (I.hok.fresh (Nat.le_refl _))⟩
end
noncomputable def za1:List (TE×TE)→St→Hp→(List (V×V)→Hp→Prop)→Prop
  | [],_,H,Q=>Q [] H
  | (tk,tv)::r,σ,H,Q=>tk σ H fun x H1=>tv σ H1 fun y H2=>za1 r σ H2 fun ps H3=>Q ((x,y)::ps) H3
noncomputable abbrev VV:List (V×V)→List (Value×Value)→Prop:=Paired fun p q=>RelV p.1 q.1∧RelV p.2 q.2
noncomputable def PPs (X:Cx) (pos:Pos) (keys:List (Option Expr)) (values:List Expr) (trs:List (TE×TE)):Prop :=
  ∀ (pins:List (Addr×Obj)) (s:Shared) (σ:St) (H:Hp) (Q:List (V×V)→Hp→Prop),Inv X pins σ H s→za1 trs σ H Q →
    wpAny (model X.prog X.w) X.A (evalPairs (pairTrees keys values X.env pos)) (fun vs s'=>∃ ps H',Inv X pins σ H' s'∧VV ps vs∧Q ps H') X.xe s
theorem YbI {X:Cx} {pos:Pos}:PPs X pos [] [] []:=fun pins s σ H Q I h=>pairTrees_nil_walk ⟨[],H,I,.nil,h⟩
theorem YaP {X:Cx} {pos:Pos} {k v:Expr} {ks:List (Option Expr)} {vs:List Expr} {tk tv:TE} {trs:List (TE×TE)} (hk:PE X k tk) (hv:PE X v tv) (hr:PPs X pos ks vs trs) :
    PPs X pos (some k::ks) (v::vs) ((tk,tv)::trs):=fun pins s σ H Q I h =>
  pairTrees_cons_walk (thn (hk pins s σ H _ I h) fun u s1 ⟨x,H1,I1,rx,q1⟩=>thn (hv pins s1 σ H1 _ I1 q1) fun w2 s2 ⟨y,H2,I2,ry,q2⟩ =>
    thn (hr pins s2 σ H2 _ I2 q2) fun ws s3 ⟨ps,H3,I3,rel,q3⟩=>⟨(x,y)::ps,H3,I3,.cons ⟨rx,ry⟩ rel,q3⟩)
noncomputable def qZ (kvs more:List (Key×V)):List (Key×V):=more.foldl (fun acc kv=>QC acc kv.1 kv.2) kvs
theorem KV.merge:∀ {more:List (Key×V)} {rs:List (Key×Value)} {kvs:List (Key×V)} {vs:List (Key×Value)},KV more rs→KV kvs vs→KV (qZ kvs more) (merged vs rs):=by
  intro more rs kvs vs r
  unfold KV at r
  induction r generalizing kvs vs with
  | nil=>intro q; exact q
  | @cons p q ps qs h t ih =>
    intro r0
    have e:KV (QC kvs p.1 p.2) (stored vs q.1 q.2):=by
      have:=r0.put p.1 h.2
      rw [← h.1]; exact this
    exact ih e
theorem QN:∀ (more kvs:List (Key×V)),(qZ kvs more).length≤kvs.length + more.length
  | [],kvs=>by show kvs.length≤kvs.length + 0; omega
  | p::r,kvs=>by
    have h1:=QN r (QC kvs p.1 p.2)
    have h2:=zJ kvs p.1 p.2
    show (qZ (QC kvs p.1 p.2) r).length≤_
    rw [List.length_cons]; omega
theorem Zaf {P:Program} {w:World}:∀ {kvs:List (Key×V)} {ws:List (Value×Value)},VV (kvs.map fun kv=>(kV kv.1,kv.2)) ws→∃ rs,Carries (Qg P w) ws rs∧KV kvs rs
  | [],_,r=>by rw [List.map_nil] at r; cases r; exact ⟨[],True.intro,.nil⟩
  | p::kvs,_,r=>by
    rw [List.map_cons] at r
    cases r with
    | @cons a b as bs h t =>
      obtain ⟨rs,c,q⟩:=Zaf (P:=P) (w:=w) t
      obtain ⟨b1,b2⟩:=b
      exact ⟨(p.1,b2)::rs,⟨YaJ h.1,rfl,c⟩,.cons ⟨rfl,h.2⟩ q⟩
noncomputable def tDisp (trs:List (TE×TE)):TE:=fun σ H Q=>∀ p,H p=none→za1 trs σ (upd H p (.dK [])) fun ps H2=>H2 p=some (.dK [])∧∃ kvs:List (Key×V),ps=kvs.map (fun kv=>(kV kv.1,kv.2))∧kvs.length≤15∧Q (.ref p) (upd H2 p (.dK (qZ [] kvs)))
theorem ybC {X:Cx} {pos:Pos} {keys:List (Option Expr)} {values:List Expr} {trs:List (TE×TE)} (h:PPs X pos keys values trs) (hall:keys.all (·.isSome)=true) (hl:keys.length=values.length) (h0:keys≠[])
    (h15:keys.length≤15):PE X (.Dict keys values pos) (tDisp trs):=by
  intro pins s σ H Q I q
  have hn:=I.hok.fresh (Nat.le_refl s.heap.objs.size)
  have I1:=I.laid (a:=s.heap.objs.size) (o:=.dK []) (h':=s.heap.push {cls:=.type "dict",data:=.dict #[]}) (t':=s.toks) (fun _ _ q=>Heap.get?_push_of_some _ q) (Nat.le_refl _) (Qbp s.heap I.big)
  refine wpAny_Dict_walk (knd:=Qg X.prog X.w) hall hl h0 h15 (thn (h pins _ σ _ _ I1 (q _ hn)) fun ws s2 ⟨ps,H2,I2,rel,e,kvs,ep,lk,q2⟩=>?_)
  subst ep
  obtain ⟨rs,c,rk⟩:=Zaf (P:=X.prog) (w:=X.w) rel
  obtain ⟨z,hd,vs0,r0,dd⟩:=ybw I2.hok e
  cases r0
  refine ⟨rs,c,dd,fun h' dd' hs=>⟨.ref s.heap.objs.size,_,?_,rfl,q2⟩⟩
  have hz:(qZ [] kvs).length≤sizeLine:=by
    have h1:=QN kvs []
    rw [List.length_nil] at h1
    rw [sizeLine_eq]; omega
  have he:∃ q,h'.get? s.heap.objs.size=some q:=let ⟨q,_,_,hq,_⟩:=dd'; ⟨q,hq⟩
  exact zaD I2 (by rw [e]; exact True.intro) hs he (zbp hz hd (rk.merge .nil) dd')
structure M2 (X:Cx) (o:Expr) (m:Str) (apos:Pos) (e f:Expr) (cpos:Pos):Prop where
  base:attributeBase o m X.env (eval o X.env)=eval o X.env
  few:((backTo cpos (starEach [e,f] X.env)).all (fun x=>!x.1)&&(backToKw cpos (keywordEach [] X.env)).all (fun x=>x.1.isSome)
    && decide (([e,f]:List Expr).length + ([]:List Keyword).length + (if ([]:List Keyword).isEmpty then 0 else 1) < 30))=true
  line:(apos.endLine == cpos.line)=true
  trees:backTo cpos (starEach [e,f] X.env)=[(false,eval e X.env),(false,eval f X.env)]
noncomputable def IsD (H:Hp) (a:Addr):Prop:=(∃ kvs,Rd H a (.dK kvs))∨∃ kvs,Rd H a (.dT kvs)
theorem QbS {X:Cx} {pins:List (Addr×Obj)} {σ:St} {H:Hp} {s:Shared} {a:Addr} (I:Inv X pins σ H s) (d:IsD H a) :
    s.TypeIs (.ref a) "dict"∧(∀ b,Value.ref a=.ref b→∃ ob,s.heap.get? b=some ob∧ob.dict=none)∧(a == sysModules)=false:=by
  rcases d with ⟨kvs,e⟩ | ⟨kvs,e⟩
  · obtain ⟨_,hd,vs,_,dd⟩:=zaI I.hok e
    refine ⟨dd.typeIs,fun b q=>?_,hd⟩
    cases q
    obtain ⟨ob,_,_,h1,h2,_⟩:=dd
    exact ⟨ob,h1,h2.2.1⟩
  · obtain ⟨_,hd,xs,_,dd⟩:=qaF I.hok e
    refine ⟨dd.typeIs,fun b q=>?_,hd⟩
    cases q
    obtain ⟨ob,_,_,h1,h2,_⟩:=dd
    exact ⟨ob,h1,h2.2.1⟩
section
variable {X:Cx} {pins:List (Addr×Obj)} {σ:St} {H:Hp} {s:Shared} {a:Addr} {y d:V} {u r:Value} {o:Option V} {A:Around} {E:Value→Shared→Prop}
theorem qb8 {Q:Value→Shared→Prop} (hu:A.units + 1 < cLine) (I:Inv X pins σ H s) (g:qbx H a y o) (ry:RelV y u) (rd:RelV d r) (h:∀ w' s',Inv X pins σ H s'→RelV (o.getD d) w'→Q w' s') :
    wpAny (model X.prog X.w) A (call (.builtin "dict.get") [.ref a,u,r]) Q E s:=by
  rcases g with ⟨kvs,k,e,ey,l⟩ | ⟨kvs,k,b,e,ey,eb,l⟩
  · subst ey
    obtain ⟨z,hd,vs,rel,dd⟩:=zaI I.hok e
    refine call_meetsIn PySem.F.slot_dict_get dd.typeIs PySem.F.entry_dict_get (PySem.F.args_dict_get_3 _ _ _) (meets_dict_get_default (Qg X.prog X.w) a (YaJ ry) hd r) ⟨_,dd.mapOf,h _ _ (I.tok _) ?_⟩
    rw [l]
    exact (rel.val k).getD rd
  · subst ey
    cases (show u=Value.ref b from ry)
    obtain ⟨z,hd,xs,rel,dd⟩:=qaF I.hok e
    refine call_meetsIn PySem.F.slot_dict_get dd.typeIs PySem.F.entry_dict_get (PySem.F.args_dict_get_3 _ _ _) (meetsH_dict_get_default (tupleKind (Qg X.prog X.w)) a b hd r) ⟨tupleKind_room_in1 hu,k,xs,ZaA I.hok eb,dd,h _ _ (I.tok _) ?_⟩
    rw [l]
    exact (rel.val k).getD rd
end
noncomputable def QbY (td ty tx:TE):TE:=fun σ H Q=>td σ H fun x H1=>∃ a,x=.ref a∧IsD H1 a∧ty σ H1 fun y H2=>tx σ H2 fun z H3=>∃ o,qbx H3 a y o∧Q (o.getD z) H3
section
variable {X:Cx} {o e f:Expr} {apos cpos:Pos} {td ty tx:TE}
theorem Ybn (hu:X.A.units + 1 < cLine) (ho:PE X o td) (he:PE X e ty) (hf:PE X f tx) (m:M2 X o "get" apos e f cpos):PE X (.Call (.Attribute o "get" apos) [e,f] [] cpos) (QbY td ty tx):=by
  intro pins s σ H Q I h
  refine wpAny_Call_method m.base m.few m.line PySem.F.plainAttrs_dict PySem.F.slot_dict_get PySem.F.type_dict_get (thn (ho pins s σ H _ I h) fun u s1 ⟨x,H1,I1,rx,a,ex,d,q1⟩=>?_)
  subst ex
  obtain rfl:u=Value.ref a:=rx
  obtain ⟨t1,t2,_⟩:=QbS I1 d
  refine ⟨t1,t2,?_⟩
  rw [m.trees]
  refine Calls.callWith_builtin rfl (Calls.evalArgs_plain (Calls.spliced_cons (thn (he pins s1 σ H1 _ I1 q1) fun iv s2 ⟨y,H2,I2,ry,q2⟩ =>
    Calls.spliced_cons (thn (hf pins s2 σ H2 _ I2 q2) fun fv s3 ⟨z,H3,I3,rz,ov,g,q3⟩=>Calls.spliced_nil ?_))))
  exact qb8 hu I3 g ry rz fun w' s4 I4 rw'=>⟨_,H3,I4,rw',q3⟩
end
end L2
end
section
namespace M3
open PySem
open Sem (wp)
noncomputable def qd (env:Env):List (Str×NameKind)→List (Str×Addr)→List (Str×Addr)
  | [],cs=>cs
  | (n,k)::r,cs=>qd env r (if (k == .free)=true then (n,(env.cells.lookup n).getD 0)::cs else cs)
theorem Qag (env:Env):∀ (names:List (Str×NameKind)) (cs:List (Str×Addr)),(∀ y∈names,y.2=.free→∃ c,env.cells.lookup y.1=some c) →
    (forIn names cs fun (y:Str×NameKind) (r:List (Str×Addr))=>if (y.2 == .free)=true then do let c←cellOf env y.1; pure (ForInStep.yield ((y.1,c)::r)) else pure (ForInStep.yield r):Sem (List (Str×Addr)))=pure (qd env names cs)
  | [],cs,_=>rfl
  | (n,k)::r,cs,h=>by
    have ih:=fun cs'=>Qag env r cs' fun y hy=>h y (List.mem_cons_of_mem _ hy)
    rw [List.forIn_cons]
    by_cases hk:(k == .free)=true
    · obtain ⟨c,e⟩:=h (n,k) List.mem_cons_self (by simpa using hk)
      have e':cellOf env n=pure c:=by unfold cellOf; rw [e]
      show (if (k == .free)=true then _ else _) >>= _=_
      rw [if_pos hk]
      show (cellOf env n >>= fun c=>_) >>= _=_
      rw [e']
      show (forIn r ((n,c)::cs) _:Sem _)=_
      rw [ih]
      show _=pure (qd env r (if (k == .free)=true then (n,(env.cells.lookup n).getD 0)::cs else cs))
      rw [if_pos hk,e]
      rfl
    · show (if (k == .free)=true then _ else _) >>= _=_
      rw [if_neg hk]
      show (forIn r cs _:Sem _)=_
      rw [ih]
      show _=pure (qd env r (if (k == .free)=true then (n,(env.cells.lookup n).getD 0)::cs else cs))
      rw [if_neg hk]
theorem yaf {env:Env} {scope:Scope} (h:∀ y∈scope.names,y.2=.free→∃ c,env.cells.lookup y.1=some c):closureFor scope env=pure (qd env scope.names []):=by
  have q:=Qag env scope.names [] h
  unfold closureFor
  have e:∀ (t:Sem (List (Str×Addr))),t=pure (qd env scope.names [])→(t >>= fun r=>pure r)=pure (qd env scope.names []):=fun t z=>by rw [z]; rfl
  refine e _ (Eq.trans ?_ q)
  congr 1
end M3
end
section
namespace M3
open PySem
open Sem (wp)
section
variable {prog:Program} {w:World} {A:Around} {R:Result→Shared→Prop} {s:Shared}
noncomputable abbrev zbP (ifs:List Expr) (env:Env):Sem Bool:=forIn ifs true fun c r=>if r=true then do let ok←isTrue c env (eval c env); pure (ForInStep.yield ok) else pure (ForInStep.yield r)
theorem Ya6 {elt target iter:Expr} {ifs:List Expr} {scope:Scope} {pos:Pos} {it acc:Value} {env:Env} (I:Nat→Shared→Prop)
    (turn:∀ n s,I n s→wpAny (model prog w) A (pyNext it) (fun r s1=>match r with
      | none=>R (.ok .next) s1
      | some v=>wpAny (model prog w) A (letOwnedTupleGo target it v) (fun _ s2=>wpAny (model prog w) A (assign target env v) (fun _ s3 =>
          wpAny (model prog w) A (zbP ifs env) (fun ok s4=>if ok=true then wpAny (model prog w) A (eval elt env) (fun x s5 =>
              wpAny (model prog w) A (call (.builtin "list.append") [acc,x]) (fun _ s6=>∃ m,m < n∧I m s6) (fun _ _=>False) s5) (fun _ _=>False) s4
            else ∃ m,m < n∧I m s4) (fun _ _=>False) s3) (fun _ _=>False) s2) (fun _ _=>False) s1) (fun _ _=>False) s)
    (n:Nat) (h:I n s):codeAny (model prog w) A (.compLoop (.ListComp elt [⟨target,iter,ifs,0⟩] scope pos) 0 it acc env) R s:=by
  refine codeAny_loop rfl I (fun n s hI=>?_) n h
  show wpAny _ A ((compTurn (.ListComp elt [⟨target,iter,ifs,0⟩] scope pos) 0 it acc env).onRaise (fun x=>do noteFrame x env; theTreesLotGoes x)) _ _ s
  refine wpAny_noted ?_
  rw [compTurn_list]
  refine wpAny_bind (wpAny_standAt (wpAny_bind (wpAny_mono (turn n s hI) (fun r s1 h1=>?_) fun _ _ z=>z.elim)))
  cases r with
  | none=>exact wpAny_pure h1
  | some v =>
    refine wpAny_bind (wpAny_mono h1 (fun _ s2 h2=>?_) fun _ _ z=>z.elim)
    refine wpAny_bind (wpAny_mono h2 (fun _ s3 h3=>wpAny_bind (wpAny_mono h3 (fun ok s4 h4=>?_) fun _ _ z=>z.elim)) fun _ _ z=>z.elim)
    cases ok with
    | false=>exact wpAny_pure ⟨rfl,h4⟩
    | true =>
      refine wpAny_bind (wpAny_bind (wpAny_mono h4 (fun x s5 h5=>?_) fun _ _ z=>z.elim))
      exact wpAny_bind (wpAny_mono h5 (fun _ s6 h6=>wpAny_pure (wpAny_pure ⟨rfl,h6⟩)) fun _ _ z=>z.elim)
end
noncomputable abbrev zaC (C t:Addr) (tb:Value):Obj:={cls:=.ref C,data:=.fields #[.ref t,tb,.none,.none,.bool false,.none]}
inductive Tb (h:Heap) (x:Addr):Value→Prop where
  | no:Tb h x .none
  | at {T:Addr} {o:Obj} {ts:Array Value} (ne:T≠x) (ho:h.get? T=some o) (hd:o.data=.fields ts) (h3:ts[3]?=some .none):Tb h x (.ref T)
structure Noted (fs:List Addr) (x:Addr) (tb:Value) (h h':Heap):Prop where
  keep:∀ b o,b∉fs→b≠x→Value.ref b≠tb→h.get? b=some o→h'.get? b=some o
  slot:∀ b o,b∈fs→b≠x→Value.ref b≠tb→h.get? b=some o→∃ sl,h'.get? b=some {o with slots:=sl}
section
variable {M:Model} {A:Around} {E:Value→Shared→Prop} {s:Shared}
theorem zad {base:Heap} {env:Env} {outer:List Env} {L x C t:Addr} {head tb0:Value} {had:Bool} {Q:Unit→Shared→Prop}
    (hfr:A.frames=some (env::outer)) (hl:s.heap.FunFrames base (env::outer)) (hf:env.frame=some L) (he:s.heap.get? x=some (zaC C t tb0))
    (h:∀ h' T,(∀ b o,b∉(env::outer).filterMap (·.frame)→b≠x→s.heap.get? b=some o→h'.get? b=some o) →
      (∀ b o,b∈(env::outer).filterMap (·.frame)→s.heap.get? b=some o→∃ sl,h'.get? b=some {o with slots:=sl}) →
      h'.get? x=some (zaC C t (.ref T))→Tb h' x (.ref T)→s.heap.objs.size≤T→Q () {s with heap:=h'}) :
    wpAny M A (do let a←frameOf env; let pl←entryPlaceOf L had; let b←EntryCells.newEntry head a .none (rawInt L) .none pl; setField (.ref x) 1 b) (fun _ s'=>wpAny M A (setFlight (.ref x) none) Q E s') E s:=by
  have hx:x∉(env::outer).filterMap (·.frame):=fun hm=>by
    obtain ⟨_,o,ho,nf⟩:=hl.mem hm
    rw [he] at ho
    cases ho
    exact nf _ rfl
  refine wpAny_bind (wpAny_frameOf_fun hfr hl hf fun h1 k1=>?_)
  refine wpAny_bind (wpAny_entryPlaceOf fun pl hpl=>?_)
  unfold EntryCells.newEntry newFields
  refine wpAny_bind (wpAny_newObj_type ?_ (hpl.sizeOk5 _ _ _ _ _))
  generalize hcells:([head,Value.ref L,Value.none,rawInt L,Value.none]++(if pl.isEmpty=true then List.replicate 6 Value.none else pl))=cells
  have len:3 < cells.length:=by rw [← hcells]; simp only [List.length_append,List.length_cons,List.length_nil]; omega
  have e1:h1.get? x=some (zaC C t tb0):=(k1.2.1 x hx).trans he
  have e2:=Heap.get?_push_of_some {cls:=.type "traceback",dict:=none,data:=.fields cells.toArray} e1
  have neT:x≠h1.objs.size:=Nat.ne_of_lt (Heap.lt_size e1)
  refine wpAny_setField e2 rfl (by simp) ?_
  have e3:=Heap.get?_update_self (Obj.mapFields (·.setIfInBounds 1 (Value.ref h1.objs.size))) e2 (Obj.isFreed_of_fields (Obj.data_mapFields rfl _))
  have e4:((h1.push {cls:=.type "traceback",dict:=none,data:=.fields cells.toArray}).update x (Obj.mapFields (·.setIfInBounds 1 (Value.ref h1.objs.size)))).get? h1.objs.size=some {cls:=.type "traceback",dict:=none,data:=.fields cells.toArray} :=
    (Heap.get?_update_other _ _ neT).trans (Heap.get?_push_size h1 rfl)
  unfold setFlight
  refine wpAny_bind (wpAny_field e3 (vs:=#[.ref t,.ref h1.objs.size,.none,.none,.bool false,.none]) (x:=.ref h1.objs.size) rfl rfl ?_)
  rw [if_pos (show (Value.ref h1.objs.size != Value.none)=true from by simp)]
  refine wpAny_setField e4 rfl (by simpa using len) ?_
  have e5:=Heap.get?_update_self (Obj.mapFields (·.setIfInBounds 3 ((none:Option Addr).elim Value.none fun f=>rawInt f))) e4 (Obj.isFreed_of_fields (Obj.data_mapFields rfl _))
  have sz:h1.objs.size=s.heap.objs.size:=k1.1
  have other:∀ b o,b≠x→h1.get? b=some o→(((h1.push {cls:=.type "traceback",dict:=none,data:=.fields cells.toArray}).update x (Obj.mapFields (·.setIfInBounds 1 (Value.ref h1.objs.size)))).update h1.objs.size (Obj.mapFields (·.setIfInBounds 3 ((none:Option Addr).elim Value.none fun f=>rawInt f)))).get? b=some o:=fun b o nb eb=>by
    rw [Heap.get?_update_other _ _ (Nat.ne_of_gt (Heap.lt_size eb)),Heap.get?_update_other _ _ (Ne.symm nb)]
    exact Heap.get?_push_of_some _ eb
  refine h _ h1.objs.size (fun b o hb nb eb=>other b o nb ((k1.2.1 b hb).trans eb)) (fun b o hb eb=>?_) ?_ (.at (Ne.symm neT) e5 (Obj.data_mapFields rfl _) ?_) (Nat.le_of_eq sz.symm)
  · obtain ⟨sl,q⟩:=k1.2.2 b o eb
    exact ⟨sl,other b _ (fun z=>hx (z ▸ hb)) q⟩
  · rw [Heap.get?_update_other _ _ (Ne.symm neT)]
    exact e3
  · simp [Array.getElem?_setIfInBounds,len]
theorem zba {base:Heap} {env:Env} {outer:List Env} {L x C t:Addr} {tb:Value} {Q:Unit→Shared→Prop}
    (hfr:A.frames=some (env::outer)) (hl:s.heap.FunFrames base (env::outer)) (hf:env.frame=some L) (he:s.heap.get? x=some (zaC C t tb)) (ht:Tb s.heap x tb)
    (h:∀ h' T,Noted ((env::outer).filterMap (·.frame)) x tb s.heap h'→h'.get? x=some (zaC C t (.ref T))→Tb h' x (.ref T)→s.heap.objs.size≤T→Q () {s with heap:=h'}) :
    wpAny M A (leaving env (.ref x)) Q E s:=by
  unfold leaving noteFrame
  simp only [hf]
  refine wpAny_bind (wpAny_bind (wpAny_field he rfl (x:=tb) rfl ?_))
  cases ht with
  | no =>
    rw [if_neg (by decide)]
    exact zad hfr hl hf he fun h' T k1 k2 e1 e2 e3=>h h' T ⟨fun b o hb nb _ eb=>k1 b o hb nb eb,fun b o hb _ _ eb=>k2 b o hb eb⟩ e1 e2 e3
  | @«at» T o ts ne ho hd h3 =>
    rw [if_pos (show (Value.ref T != Value.none)=true from by simp)]
    refine wpAny_bind (wpAny_field ho hd h3 ?_)
    rw [if_neg (show ¬ ((Value.none == rawInt L)=true) from by simp [rawInt])]
    refine wpAny_bind (wpAny_setField ho hd (Array.getElem?_eq_some_iff.mp h3).1 ?_)
    have other:∀ b,b≠T→(s.heap.update T (Obj.mapFields (·.setIfInBounds 3 Value.none))).get? b=s.heap.get? b:=fun b nb=>Heap.get?_update_other _ _ (Ne.symm nb)
    have nrec:∀ b o,s.heap.get? b=some o→(∀ vs,o.data≠.fields vs)→b≠T:=fun b o eb nf z=>by
      rw [z,ho] at eb
      cases eb
      exact nf ts hd
    refine zad (s:={s with heap:=s.heap.update T (Obj.mapFields (·.setIfInBounds 3 Value.none))}) hfr (hl.of_keeps fun b o eb nf=>⟨o,(other b (nrec b o eb nf)).trans eb,rfl⟩) hf ((other x (Ne.symm ne)).trans he)
      fun h' T' k1 k2 e1 e2 e3=>h h' T' ⟨fun b o hb nb nt eb=>k1 b o hb nb ((other b fun z=>nt (z ▸ rfl)).trans eb),fun b o hb _ nt eb=>k2 b o hb ((other b fun z=>nt (z ▸ rfl)).trans eb)⟩ e1 e2 ?_
    have e3':(s.heap.update T (Obj.mapFields (·.setIfInBounds 3 Value.none))).objs.size≤T':=e3
    rw [Heap.size_after_update] at e3'
    exact e3'
end
end M3
end
section
namespace M3
open PySem
open Sem (wp)
end M3
end
section
namespace M3
open PySem
open Sem (wp)
section
variable {prog:Program} {w:World} {A:Around} {E:Value→Shared→Prop} {s:Shared}
theorem YV {r l:Addr} {i:Nat} {items:Array Value} {x:Value} {Q:Value→Shared→Prop} (ri:s.heap.IsTupleIter r l i) (hl:s.heap.IsTuple l items) (hx:items[i]?=some x)
    (hQ:∀ h',h'.IsTupleIter r l (i + 1)→Heap.SameBut r s.heap h'→Q x {s with heap:=h'}):wpAny (model prog w) A (Builtin.SmallTypes.nextOf (.ref r)) Q E s:=by
  obtain ⟨o,ho,hc,hd⟩:=id ri
  obtain ⟨ol,hol,_,nl,hdl⟩:=hl
  unfold Builtin.SmallTypes.nextOf
  apply wpAny_bind
  refine wpAny_callSpecial?_slot (name:=Str.ofString "__next__") ri.typeIs F.slot_tuple_iterator_next (wpAny_call_entry F.slot_tuple_iterator_next ri.typeIs F.entry_tuple_iterator_next ?_ (F.args_tuple_iterator_next_1 _))
  show wpAny _ _ (field (.ref r) 0 >>= _) _ _ s; apply wpAny_bind; apply wpAny_field ho hd (x:=.ref l) rfl
  show wpAny _ _ (if (Value.ref l == Value.none)=true then _ else _) _ _ s; rw [if_neg (fun z:(Value.ref l == Value.none)=true=>absurd z Bool.false_ne_true)]
  show wpAny _ _ (field (.ref r) 1 >>= _) _ _ s; apply wpAny_bind; apply wpAny_field ho hd (x:=.int i 0) rfl
  show wpAny _ _ (seqItems? (.ref l) >>= _) _ _ s; apply wpAny_bind; apply wpAny_seqItems hol hdl
  simp only [Int.toNat_natCast,hx]; apply wpAny_bind
  refine wpAny_setField ho hd (by simp) (wpAny_pure ⟨x,rfl,wpAny_pure (hQ _ ⟨_,Heap.get?_update_self _ ho (Obj.isFreed_of_fields (Obj.data_mapFields hd _)),(Obj.cls_mapFields ..).trans hc,?_⟩ (Heap.SameBut.update ..))⟩)
  rw [Obj.data_mapFields hd]; simp [rawInt]
theorem Z1 {r l:Addr} {i:Nat} {items:Array Value} {Q:Value→Shared→Prop} (hh:A.handled=none) (ri:s.heap.IsTupleIter r l i) (hl:s.heap.IsTuple l items) (hx:items[i]?=none)
    (hE:∀ h' e,Heap.ExtBut r s.heap h'→(∃ o,h'.get? e=some o∧o.cls=.type "StopIteration")→E (.ref e) {s with heap:=h'}):wpAny (model prog w) A (Builtin.SmallTypes.nextOf (.ref r)) Q E s:=by
  obtain ⟨o,ho,hc,hd⟩:=id ri
  obtain ⟨ol,hol,_,nl,hdl⟩:=hl
  unfold Builtin.SmallTypes.nextOf
  apply wpAny_bind
  refine wpAny_callSpecial?_slot (name:=Str.ofString "__next__") ri.typeIs F.slot_tuple_iterator_next (wpAny_call_entry F.slot_tuple_iterator_next ri.typeIs F.entry_tuple_iterator_next ?_ (F.args_tuple_iterator_next_1 _))
  show wpAny _ _ (field (.ref r) 0 >>= _) _ _ s; apply wpAny_bind; apply wpAny_field ho hd (x:=.ref l) rfl
  show wpAny _ _ (if (Value.ref l == Value.none)=true then _ else _) _ _ s; rw [if_neg (fun z:(Value.ref l == Value.none)=true=>absurd z Bool.false_ne_true)]
  show wpAny _ _ (field (.ref r) 1 >>= _) _ _ s; apply wpAny_bind; apply wpAny_field ho hd (x:=.int i 0) rfl
  show wpAny _ _ (seqItems? (.ref l) >>= _) _ _ s; apply wpAny_bind; apply wpAny_seqItems hol hdl
  simp only [Int.toNat_natCast,hx]; apply wpAny_bind; apply wpAny_rule; apply wpAny_bind
  refine wpAny_setField ho hd (by simp) ?_
  show wpAny _ _ (newExc (.type "StopIteration") [] >>= _) _ _ _
  apply wpAny_bind; simp only [newExc,newTuple]
  apply wpAny_bind; refine wpAny_newObj_type ?_ (by size_fits)
  refine wpAny_bind (m:=firstArgMember _ _) (wpAny_of_eq (a:=Value.none) (by first | rfl | (unfold firstArgMember; rfl)) (wpAny_newObj_type ?_ (by size_fits)))
  refine wpAny_raiseNew_none (by first | exact hh | (show A.in1.handled=_; exact hh)) (hE _ _ ((((Heap.SameBut.update ..).extBut).push _).push _) ⟨_,Heap.get?_push_size _ rfl,rfl⟩)
theorem ZaY (hh:A.handled=none) (r l:Addr) (hne:l≠r) (items:Array Value) :
    Draws prog w A r [r,l] items.size (fun i v=>items[i]?=some v) (fun i h=>h.IsTupleIter r l i∧h.IsTuple l items) where
  live:=fun _ _ st=>let ⟨o,ho,_⟩:=st.1; ⟨o,ho⟩
  frame:=fun _ _ _ st hk=>let ⟨⟨o,e,c⟩,⟨u,f,d⟩⟩:=st; ⟨⟨o,hk r (by simp) o e,c⟩,⟨u,hk l (by simp) u f,d⟩⟩
  item:=fun i s Q E hi st hQ=>YV st.1 st.2 (x:=items[i]) (by simp [hi]) fun h' a b=>hQ _ h' s.toks (by simp [hi]) ⟨a,let ⟨u,f,d⟩:=st.2; ⟨u,b.extBut l u hne f,d⟩⟩ b
  done:=fun s Q E st hE=>Z1 hh st.1 st.2 (by simp) hE
structure ZAp (z TI TO i1 i2:Addr) (fp1 fp2:List Addr):Prop where
  tiz:TI≠z
  toz:TO≠z
  tito:TI≠TO
  ti1:TI≠i1
  ti2:TI≠i2
  z1:z∉fp1
  z2:z∉fp2
  t1:TO∉fp1
  t2:TO∉fp2
  m1:i1∈fp1
  m2:i2∈fp2
  a1:i1∉fp2
  a2:i2∉fp1
variable {z TI TO i1 i2:Addr} {fp1 fp2:List Addr} {n1 n2 k:Nat} {P1 P2:Nat→Value→Prop} {S1 S2:Nat→Heap→Prop} {a b:Value}
theorem Zbh {Q:Value→Shared→Prop} (Z:ZAp z TI TO i1 i2 fp1 fp2) (D1:Draws prog w A i1 fp1 n1 P1 S1) (D2:Draws prog w A i2 fp2 n2 P2 S2) (hz:IsZip s.heap z TI TO .none) (hI:IsPair s.heap TI (.ref i1) (.ref i2)) (hO:IsPair s.heap TO a b)
    (s1:S1 k s.heap) (s2:S2 k s.heap) (k1:k < n1) (k2:k < n2)
    (hQ:∀ x y h' tk,P1 k x→P2 k y→IsZip h' z TI TO (rawInt s.heap.objs.size)→IsPair h' TO x y→S1 (k + 1) h'→S2 (k + 1) h'→IsPair h' s.heap.objs.size x y→h'.objs.size=s.heap.objs.size + 1 →
      (∀ c o,c≠z→c≠TO→c≠i1→c≠i2→s.heap.get? c=some o→h'.get? c=some o)→Q (.ref s.heap.objs.size) {s with heap:=h',toks:=tk}) :
    wpAny (model prog w) A (Builtin.«zip.__next__» ⟨[.ref z],[]⟩) (fun fin s'=>∃ v,fin=.done (.ret v)∧Q v s') E s:=by
  have iz1:i1≠z:=fun e=>Z.z1 (e ▸ Z.m1)
  have iz2:i2≠z:=fun e=>Z.z2 (e ▸ Z.m2)
  have it1:i1≠TO:=fun e=>Z.t1 (e ▸ Z.m1)
  have it2:i2≠TO:=fun e=>Z.t2 (e ▸ Z.m2)
  have i12:i1≠i2:=fun e=>Z.a1 (e ▸ Z.m2)
  show wpAny _ _ (field (.ref z) 2 >>= _) _ _ _; apply wpAny_bind; apply wpAny_field hz rfl (x:=.bool false) rfl
  show wpAny _ _ (field (.ref z) 3 >>= _) _ _ _; apply wpAny_bind; apply wpAny_field hz rfl (x:=.ref TI) rfl
  apply wpAny_bind; apply wpAny_seqItems hI rfl
  show wpAny _ _ (Builtin.SmallTypes.ownedTupleIsFree (.ref z) >>= _) _ _ _; apply wpAny_bind
  unfold Builtin.SmallTypes.ownedTupleIsFree; apply wpAny_bind; apply wpAny_field hz rfl (x:=.none) rfl; apply wpAny_pure
  simp only [if_true]; apply wpAny_bind; apply wpAny_rule; apply wpAny_bind; apply wpAny_field hz rfl (x:=.ref TO) rfl
  apply wpAny_bind; refine wpAny_setField_rec hz (by simp) fun h1 y1 g1=>?_
  replace y1:IsZip h1 z TI TO .ellipsis:=y1
  apply wpAny_bind; simp only [List.zipIdx_cons,List.zipIdx_nil,List.forIn_cons,List.forIn_nil]
  apply wpAny_bind; apply wpAny_bind; apply wpAny_onRaise
  show wpAny _ _ (Builtin.SmallTypes.nextOf (.ref i1) >>= _) _ _ _; apply wpAny_bind
  refine D1.item k _ _ _ k1 (D1.frame _ _ _ s1 fun c hc o e=>g1.extBut c o (fun q=>Z.z1 (q ▸ hc)) e) fun x h2 t2 px q2 g2=>wpAny_pure ?_
  have o2:IsPair h2 TO a b:=g2.extBut _ _ (Ne.symm it1) (g1.extBut _ _ Z.toz hO)
  apply wpAny_bind; apply wpAny_seqItems o2 rfl; apply wpAny_bind
  refine wpAny_updateSeq_pair o2 fun h3 o3 g3=>wpAny_bind (wpAny_letGo (wpAny_pure ?_))
  replace o3:IsPair h3 TO x b:=o3
  apply wpAny_bind; apply wpAny_bind; apply wpAny_onRaise
  show wpAny _ _ (Builtin.SmallTypes.nextOf (.ref i2) >>= _) _ _ _; apply wpAny_bind
  refine D2.item k _ _ _ k2 (D2.frame _ _ _ s2 fun c hc o e=>g3.extBut c o (fun q=>Z.t2 (q ▸ hc)) (g2.extBut c o (fun q=>Z.a1 (q ▸ hc)) (g1.extBut c o (fun q=>Z.z2 (q ▸ hc)) e))) fun y h4 t4 py q4 g4=>wpAny_pure ?_
  have o4:IsPair h4 TO x b:=g4.extBut _ _ (Ne.symm it2) o3
  apply wpAny_bind; apply wpAny_seqItems o4 rfl; apply wpAny_bind
  refine wpAny_updateSeq_pair o4 fun h5 o5 g5=>wpAny_bind (wpAny_letGo (wpAny_pure (wpAny_pure ?_)))
  replace o5:IsPair h5 TO x y:=o5
  apply wpAny_bind; apply wpAny_seqItems o5 rfl; apply wpAny_bind; refine wpAny_newTuple ?_
  have sz:h5.objs.size=s.heap.objs.size:=by rw [g5.1,g4.1,g3.1,g2.1,g1.1]
  have y5:IsZip h5 z TI TO .ellipsis:=g5.extBut _ _ (Ne.symm Z.toz) (g4.extBut _ _ (Ne.symm iz2) (g3.extBut _ _ (Ne.symm Z.toz) (g2.extBut _ _ (Ne.symm iz1) y1)))
  have c5:∀ c o,c≠z→c≠TO→c≠i1→c≠i2→s.heap.get? c=some o→h5.get? c=some o:=fun c o c1 c2 c3 c4 e=>g5.extBut _ _ c2 (g4.extBut _ _ c4 (g3.extBut _ _ c2 (g2.extBut _ _ c3 (g1.extBut _ _ c1 e))))
  have r1:S1 (k + 1) h5:=D1.frame _ _ _ q2 fun c hc o e=>g5.extBut c o (fun q=>Z.t1 (q ▸ hc)) (g4.extBut c o (fun q=>Z.a2 (q ▸ hc)) (g3.extBut c o (fun q=>Z.t1 (q ▸ hc)) e))
  have r2:S2 (k + 1) h5:=D2.frame _ _ _ q4 fun c hc o e=>g5.extBut c o (fun q=>Z.t2 (q ▸ hc)) e
  have lz:z < h5.objs.size:=Heap.lt_size y5
  show wpAny _ _ (Builtin.SmallTypes.ownedTupleHandOut (.ref z) (.ref h5.objs.size) >>= _) _ _ _; apply wpAny_bind
  unfold Builtin.SmallTypes.ownedTupleHandOut
  have y6:IsZip (h5.push {cls:=.type "tuple",data:=.seq #[x,y]}) z TI TO .ellipsis:=Heap.get?_push_of_some _ y5
  apply wpAny_bind; refine wpAny_setField_rec y6 (by simp) fun h7 y7 g7=>?_
  replace y7:IsZip h7 z TI TO (rawInt h5.objs.size):=y7
  refine wpAny_setField_rec y7 (by simp) fun h8 y8 g8=>?_
  replace y8:IsZip h8 z TI TO (rawInt h5.objs.size):=y8
  have up:∀ c o,c≠z→h5.get? c=some o→h8.get? c=some o:=fun c o c1 e=>g8.extBut _ _ c1 (g7.extBut _ _ c1 (Heap.get?_push_of_some _ e))
  have p8:IsPair h8 h5.objs.size x y:=g8.extBut _ _ (Nat.ne_of_gt lz) (g7.extBut _ _ (Nat.ne_of_gt lz) (Heap.get?_push_size _ rfl))
  have n8:h8.objs.size=h5.objs.size + 1:=by rw [g8.1,g7.1,Heap.size_push]
  rw [sz] at y8 p8 n8
  refine wpAny_pure ⟨_,rfl,?_⟩
  show Q (.ref h5.objs.size) _
  rw [sz]
  exact hQ x y h8 t4 px py y8 (up _ _ Z.toz o5) (D1.frame _ _ _ r1 fun c hc o e=>up c o (fun q=>Z.z1 (q ▸ hc)) e) (D2.frame _ _ _ r2 fun c hc o e=>up c o (fun q=>Z.z2 (q ▸ hc)) e) p8 n8 fun c o c1 c2 c3 c4 e=>up c o c1 (c5 c o c1 c2 c3 c4 e)
theorem ybk {Q:Fin→Shared→Prop} (Z:ZAp z TI TO i1 i2 fp1 fp2) (D1:Draws prog w A i1 fp1 n1 P1 S1) (D2:Draws prog w A i2 fp2 n2 P2 S2) (hz:IsZip s.heap z TI TO .none) (hI:IsPair s.heap TI (.ref i1) (.ref i2)) (hO:IsPair s.heap TO a b)
    (s1:S1 k s.heap) (s2:S2 k s.heap) (hk:k=n1∨(k < n1∧k=n2))
    (hE:∀ h' e,(∀ c o,c≠z→c≠TO→c≠i1→c≠i2→s.heap.get? c=some o→h'.get? c=some o)→(∃ o,h'.get? e=some o∧o.cls=.type "StopIteration")→∀ tk,E (.ref e) {s with heap:=h',toks:=tk}) :
    wpAny (model prog w) A (Builtin.«zip.__next__» ⟨[.ref z],[]⟩) Q E s:=by
  have iz1:i1≠z:=fun e=>Z.z1 (e ▸ Z.m1)
  have iz2:i2≠z:=fun e=>Z.z2 (e ▸ Z.m2)
  have it1:i1≠TO:=fun e=>Z.t1 (e ▸ Z.m1)
  have it2:i2≠TO:=fun e=>Z.t2 (e ▸ Z.m2)
  show wpAny _ _ (field (.ref z) 2 >>= _) _ _ _; apply wpAny_bind; apply wpAny_field hz rfl (x:=.bool false) rfl
  show wpAny _ _ (field (.ref z) 3 >>= _) _ _ _; apply wpAny_bind; apply wpAny_field hz rfl (x:=.ref TI) rfl
  apply wpAny_bind; apply wpAny_seqItems hI rfl
  show wpAny _ _ (Builtin.SmallTypes.ownedTupleIsFree (.ref z) >>= _) _ _ _; apply wpAny_bind
  unfold Builtin.SmallTypes.ownedTupleIsFree; apply wpAny_bind; apply wpAny_field hz rfl (x:=.none) rfl; apply wpAny_pure
  simp only [if_true]; apply wpAny_bind; apply wpAny_rule; apply wpAny_bind; apply wpAny_field hz rfl (x:=.ref TO) rfl
  apply wpAny_bind; refine wpAny_setField_rec hz (by simp) fun h1 y1 g1=>?_
  replace y1:IsZip h1 z TI TO .ellipsis:=y1
  apply wpAny_bind; simp only [List.zipIdx_cons,List.zipIdx_nil,List.forIn_cons,List.forIn_nil]
  apply wpAny_bind; apply wpAny_bind; apply wpAny_onRaise
  show wpAny _ _ (Builtin.SmallTypes.nextOf (.ref i1) >>= _) _ _ _; apply wpAny_bind
  have f1:S1 k h1:=D1.frame _ _ _ s1 fun c hc o e=>g1.extBut c o (fun q=>Z.z1 (q ▸ hc)) e
  rcases hk with hk | ⟨k1,hk⟩
  · refine D1.done _ _ _ (hk ▸ f1) fun h2 e g2 he=>?_
    obtain ⟨oe,e1,e2⟩:=he
    have y2:IsZip h2 z TI TO .ellipsis:=g2 _ _ (Ne.symm iz1) y1
    have ez:e≠z:=fun q=>by subst q; rw [y2] at e1; cases e1; simp at e2
    exact wpAny_setField_rec y2 (by simp) fun h3 _ g3=>hE h3 e (fun c o c1 _ c3 _ q=>g3.extBut _ _ c1 (g2 _ _ c3 (g1.extBut _ _ c1 q))) ⟨oe,g3.extBut _ _ ez e1,e2⟩ _
  · refine D1.item k _ _ _ k1 f1 fun x h2 t2 px q2 g2=>wpAny_pure ?_
    have o2:IsPair h2 TO a b:=g2.extBut _ _ (Ne.symm it1) (g1.extBut _ _ Z.toz hO)
    apply wpAny_bind; apply wpAny_seqItems o2 rfl; apply wpAny_bind
    refine wpAny_updateSeq_pair o2 fun h3 o3 g3=>wpAny_bind (wpAny_letGo (wpAny_pure ?_))
    apply wpAny_bind; apply wpAny_bind; apply wpAny_onRaise
    show wpAny _ _ (Builtin.SmallTypes.nextOf (.ref i2) >>= _) _ _ _; apply wpAny_bind
    have f2:S2 k h3:=D2.frame _ _ _ s2 fun c hc o e=>g3.extBut c o (fun q=>Z.t2 (q ▸ hc)) (g2.extBut c o (fun q=>Z.a1 (q ▸ hc)) (g1.extBut c o (fun q=>Z.z2 (q ▸ hc)) e))
    refine D2.done _ _ _ (hk ▸ f2) fun h4 e g4 he=>?_
    obtain ⟨oe,e1,e2⟩:=he
    have y4:IsZip h4 z TI TO .ellipsis:=g4 _ _ (Ne.symm iz2) (g3.extBut _ _ (Ne.symm Z.toz) (g2.extBut _ _ (Ne.symm iz1) y1))
    have ez:e≠z:=fun q=>by subst q; rw [y4] at e1; cases e1; simp at e2
    exact wpAny_setField_rec y4 (by simp) fun h5 _ g5=>hE h5 e (fun c o c1 c2 c3 c4 q=>g5.extBut _ _ c1 (g4 _ _ c4 (g3.extBut _ _ c2 (g2.extBut _ _ c3 (g1.extBut _ _ c1 q))))) ⟨oe,g5.extBut _ _ ez e1,e2⟩ _
end
end M3
end
section
namespace M3
open PySem
open Sem (wp)
noncomputable def SeqIs (h:Heap) (tup:Bool) (l:Addr) (xs:Array Value):Prop:=if tup=true then h.IsTuple l xs else h.IsList l xs
noncomputable def SeqIt (h:Heap) (tup:Bool) (r l:Addr) (k:Nat):Prop:=if tup=true then h.IsTupleIter r l k else h.IsListIter r l k
noncomputable abbrev itO (tup:Bool) (l:Addr):Obj:={cls:=.type (if tup=true then "tuple_iterator" else "list_iterator"),data:=.fields #[.ref l,.int 0 0]}
theorem SeqIs.keeps {h h':Heap} {tup:Bool} {l:Addr} {xs:Array Value} (x:SeqIs h tup l xs) (k:∀ o,h.get? l=some o→h'.get? l=some o):SeqIs h' tup l xs:=by
  cases tup with
  | true=>obtain ⟨o,e,c⟩:=(show h.IsTuple l xs from x); exact (show h'.IsTuple l xs from ⟨o,k o e,c⟩)
  | false=>exact (show h'.IsList l xs from Heap.IsList.at (show h.IsList l xs from x) k)
theorem SeqIs.lt {h:Heap} {tup:Bool} {l:Addr} {xs:Array Value} (x:SeqIs h tup l xs):l < h.objs.size:=by
  cases tup with
  | true=>obtain ⟨o,e,c⟩:=(show h.IsTuple l xs from x); exact Heap.lt_size e
  | false=>obtain ⟨o,e,c⟩:=(show h.IsList l xs from x); exact Heap.lt_size e
theorem SeqIt.keeps {h h':Heap} {tup:Bool} {r l:Addr} {k:Nat} (x:SeqIt h tup r l k) (q:∀ o,h.get? r=some o→h'.get? r=some o):SeqIt h' tup r l k:=by
  cases tup with
  | true=>obtain ⟨o,e,c⟩:=(show h.IsTupleIter r l k from x); exact (show h'.IsTupleIter r l k from ⟨o,q o e,c⟩)
  | false=>obtain ⟨o,e,c⟩:=(show h.IsListIter r l k from x); exact (show h'.IsListIter r l k from ⟨o,q o e,c⟩)
theorem SeqIt.new {h:Heap} {tup:Bool} {r l:Addr} (e:h.get? r=some (itO tup l)):SeqIt h tup r l 0:=by
  cases tup with
  | true=>exact (show h.IsTupleIter r l 0 from ⟨_,e,rfl,rfl⟩)
  | false=>exact (show h.IsListIter r l 0 from ⟨_,e,rfl,rfl⟩)
theorem SeqIt.obj {h:Heap} {tup:Bool} {r l:Addr} {k:Nat} (x:SeqIt h tup r l k):∃ o,h.get? r=some o∧∀ v,o.data≠.cell v:=by
  cases tup with
  | true=>obtain ⟨o,e,c,d⟩:=(show h.IsTupleIter r l k from x); exact ⟨o,e,fun v z=>by rw [d] at z; cases z⟩
  | false=>obtain ⟨o,e,c,d⟩:=(show h.IsListIter r l k from x); exact ⟨o,e,fun v z=>by rw [d] at z; cases z⟩
section
variable {prog:Program} {w:World} {A:Around} {E:Value→Shared→Prop} {s:Shared}
theorem Ys {tup:Bool} {l:Addr} {xs:Array Value} {Q:Value→Shared→Prop} (x:SeqIs s.heap tup l xs) (h:Q (.ref s.heap.objs.size) {s with heap:=s.heap.push (itO tup l)}):wpAny (model prog w) A (pyIter (.ref l)) Q E s:=by
  cases tup with
  | true=>exact wpAny_pyIter_tuple (show s.heap.IsTuple l xs from x) h
  | false=>exact wpAny_pyIter_list (show s.heap.IsList l xs from x) h
theorem yT (hh:A.handled=none) (tup:Bool) (r l:Addr) (hne:l≠r) (items:Array Value) :
    Draws prog w A r [r,l] items.size (fun i v=>items[i]?=some v) (fun i h=>SeqIt h tup r l i∧SeqIs h tup l items):=by
  cases tup with
  | true=>exact ZaY hh r l hne items
  | false=>exact Draws.list hh r l hne items
end
theorem ybe (b1 b2:Bool) (l1 l2:Addr) (xs ys:Array Value) :
    Meets (Builtin.«zip.__new__» ⟨[.type "zip",.ref l1,.ref l2],[]⟩) (fun _ R s=>SeqIs s.heap b1 l1 xs∧SeqIs s.heap b2 l2 ys ∧
      ∀ h5,h5=((((s.heap.push (itO b1 l1)).push (itO b2 l2)).push {cls:=.type "tuple",data:=.seq #[.ref s.heap.objs.size,.ref (s.heap.push (itO b1 l1)).objs.size]}).push {cls:=.type "tuple",data:=.seq #[.none,.none]}).push
        {cls:=.type "zip",data:=.fields #[.none,.bool false,.bool false,.ref ((s.heap.push (itO b1 l1)).push (itO b2 l2)).objs.size,.ref (((s.heap.push (itO b1 l1)).push (itO b2 l2)).push {cls:=.type "tuple",data:=.seq #[.ref s.heap.objs.size,.ref (s.heap.push (itO b1 l1)).objs.size]}).objs.size]} →
      R (.ok (.ret (.ref ((((s.heap.push (itO b1 l1)).push (itO b2 l2)).push {cls:=.type "tuple",data:=.seq #[.ref s.heap.objs.size,.ref (s.heap.push (itO b1 l1)).objs.size]}).push {cls:=.type "tuple",data:=.seq #[.none,.none]}).objs.size))) {s with heap:=h5}) :=
  .of_wp fun prog w A R s h=>by
    obtain ⟨hp,g,d,tk,os⟩:=s
    obtain ⟨x1,x2,h⟩:=h
    have hsub:=sub_zip
    have y1:SeqIs (Shared.heap ⟨hp,g,d,tk,os⟩) b1 l1 xs:=x1
    have y2:SeqIs (Shared.heap ⟨hp.push (itO b1 l1),g,d,tk,os⟩) b2 l2 ys:=SeqIs.keeps x2 fun o e=>Heap.get?_push_of_some _ e
    wp_walk using Ys y1,Ys y2
    exact ⟨_,rfl,h _ rfl⟩
section
variable {prog:Program} {w:World} {A:Around} {E:Value→Shared→Prop} {s:Shared}
theorem zbv {b1 b2:Bool} {l1 l2:Addr} {xs ys:Array Value} {Q:Value→Shared→Prop} (x1:SeqIs s.heap b1 l1 xs) (x2:SeqIs s.heap b2 l2 ys)
    (h:∀ h',IsZip h' (s.heap.objs.size + 4) (s.heap.objs.size + 2) (s.heap.objs.size + 3) .none→IsPair h' (s.heap.objs.size + 2) (.ref s.heap.objs.size) (.ref (s.heap.objs.size + 1))→IsPair h' (s.heap.objs.size + 3) .none .none →
      SeqIt h' b1 s.heap.objs.size l1 0→SeqIt h' b2 (s.heap.objs.size + 1) l2 0→(∀ c o,s.heap.get? c=some o→h'.get? c=some o)→Q (.ref (s.heap.objs.size + 4)) {s with heap:=h'}) :
    wpAny (model prog w) A (call (.type "zip") [.ref l1,.ref l2]) Q E s:=by
  refine callType_new F.called_zip (by decide) (F.typeCall_zip_2 _ _) (F.newCall_zip_2 _ _) (fun obj=>F.args_object_init_3 obj _ _) F.entry_zip_new (ybe b1 b2 l1 l2 xs ys) ⟨x1,x2,fun h5 e5=>?_⟩
  have n1:(s.heap.push (itO b1 l1)).objs.size=s.heap.objs.size + 1:=Heap.size_push ..
  have n2:((s.heap.push (itO b1 l1)).push (itO b2 l2)).objs.size=s.heap.objs.size + 2:=by rw [Heap.size_push,n1]
  have n3:(((s.heap.push (itO b1 l1)).push (itO b2 l2)).push {cls:=.type "tuple",data:=.seq #[.ref s.heap.objs.size,.ref (s.heap.push (itO b1 l1)).objs.size]}).objs.size=s.heap.objs.size + 3:=by rw [Heap.size_push,n2]
  have n4:((((s.heap.push (itO b1 l1)).push (itO b2 l2)).push {cls:=.type "tuple",data:=.seq #[.ref s.heap.objs.size,.ref (s.heap.push (itO b1 l1)).objs.size]}).push {cls:=.type "tuple",data:=.seq #[.none,.none]}).objs.size=s.heap.objs.size + 4:=by rw [Heap.size_push,n3]
  have q5:IsZip h5 ((((s.heap.push (itO b1 l1)).push (itO b2 l2)).push {cls:=.type "tuple",data:=.seq #[.ref s.heap.objs.size,.ref (s.heap.push (itO b1 l1)).objs.size]}).push {cls:=.type "tuple",data:=.seq #[.none,.none]}).objs.size ((s.heap.push (itO b1 l1)).push (itO b2 l2)).objs.size (((s.heap.push (itO b1 l1)).push (itO b2 l2)).push {cls:=.type "tuple",data:=.seq #[.ref s.heap.objs.size,.ref (s.heap.push (itO b1 l1)).objs.size]}).objs.size .none:=by rw [e5]; exact Heap.get?_push_size _ rfl
  have q4:IsPair h5 (((s.heap.push (itO b1 l1)).push (itO b2 l2)).push {cls:=.type "tuple",data:=.seq #[.ref s.heap.objs.size,.ref (s.heap.push (itO b1 l1)).objs.size]}).objs.size .none .none:=by rw [e5]; exact Heap.get?_push_of_some _ (Heap.get?_push_size _ rfl)
  have q3:IsPair h5 ((s.heap.push (itO b1 l1)).push (itO b2 l2)).objs.size (.ref s.heap.objs.size) (.ref (s.heap.push (itO b1 l1)).objs.size):=by rw [e5]; exact Heap.get?_push_of_some _ (Heap.get?_push_of_some _ (Heap.get?_push_size _ rfl))
  have q2:h5.get? (s.heap.push (itO b1 l1)).objs.size=some (itO b2 l2):=by rw [e5]; exact Heap.get?_push_of_some _ (Heap.get?_push_of_some _ (Heap.get?_push_of_some _ (Heap.get?_push_size _ rfl)))
  have q1:h5.get? s.heap.objs.size=some (itO b1 l1):=by rw [e5]; exact Heap.get?_push_of_some _ (Heap.get?_push_of_some _ (Heap.get?_push_of_some _ (Heap.get?_push_of_some _ (Heap.get?_push_size _ rfl))))
  show _∧_
  rw [n2,n3,n4] at q5
  rw [n2,n1] at q3
  rw [n3] at q4
  rw [n1] at q2
  rw [n4]
  exact ⟨⟨_,q5,rfl⟩,h _ q5 q3 q4 (.new q1) (.new q2) fun c o e=>by rw [e5]; exact Heap.get?_push_of_some _ (Heap.get?_push_of_some _ (Heap.get?_push_of_some _ (Heap.get?_push_of_some _ (Heap.get?_push_of_some _ e))))⟩
variable {z TI TO i1 i2:Addr} {fp1 fp2:List Addr} {n1 n2 k:Nat} {P1 P2:Nat→Value→Prop} {S1 S2:Nat→Heap→Prop} {a b:Value}
theorem Q8 {Q:Option Value→Shared→Prop} (Z:ZAp z TI TO i1 i2 fp1 fp2) (D1:Draws prog w A.in1 i1 fp1 n1 P1 S1) (D2:Draws prog w A.in1 i2 fp2 n2 P2 S2) (hz:IsZip s.heap z TI TO .none) (hI:IsPair s.heap TI (.ref i1) (.ref i2)) (hO:IsPair s.heap TO a b)
    (s1:S1 k s.heap) (s2:S2 k s.heap) (k1:k < n1) (k2:k < n2)
    (hQ:∀ x y h' tk,P1 k x→P2 k y→IsZip h' z TI TO (rawInt s.heap.objs.size)→IsPair h' TO x y→S1 (k + 1) h'→S2 (k + 1) h'→IsPair h' s.heap.objs.size x y→h'.objs.size=s.heap.objs.size + 1 →
      (∀ c o,c≠z→c≠TO→c≠i1→c≠i2→s.heap.get? c=some o→h'.get? c=some o)→Q (some (.ref s.heap.objs.size)) {s with heap:=h',toks:=tk}) :
    wpAny (model prog w) A (pyNext (.ref z)) Q E s:=by
  have ty:s.TypeIs (.ref z) "zip":=⟨_,hz,rfl⟩
  unfold pyNext
  refine wpAny_bind (wpAny_attempt (wpAny_callSpecial?_slot (name:=Str.ofString "__next__") ty F.slot_zip_next (wpAny_call_entry F.slot_zip_next ty F.entry_zip_next ?_ (F.args_zip_next_1 _))))
  exact Zbh Z D1 D2 hz hI hO s1 s2 k1 k2 fun x y h' tk p1 p2 e1 e2 e3 e4 e5 e6 e7=>wpAny_pure (hQ x y h' tk p1 p2 e1 e2 e3 e4 e5 e6 e7)
theorem Yai {Q:Option Value→Shared→Prop} (Z:ZAp z TI TO i1 i2 fp1 fp2) (D1:Draws prog w A.in1 i1 fp1 n1 P1 S1) (D2:Draws prog w A.in1 i2 fp2 n2 P2 S2) (hz:IsZip s.heap z TI TO .none) (hI:IsPair s.heap TI (.ref i1) (.ref i2)) (hO:IsPair s.heap TO a b)
    (s1:S1 k s.heap) (s2:S2 k s.heap) (hk:k=n1∨(k < n1∧k=n2))
    (hQ:∀ h' tk,(∀ c o,c≠z→c≠TO→c≠i1→c≠i2→s.heap.get? c=some o→h'.get? c=some o)→Q none {s with heap:=h',toks:=tk}) :
    wpAny (model prog w) A (pyNext (.ref z)) Q E s:=by
  have ty:s.TypeIs (.ref z) "zip":=⟨_,hz,rfl⟩
  unfold pyNext
  refine wpAny_bind (wpAny_attempt (wpAny_callSpecial?_slot (name:=Str.ofString "__next__") ty F.slot_zip_next (wpAny_call_entry F.slot_zip_next ty F.entry_zip_next ?_ (F.args_zip_next_1 _))))
  refine ybk Z D1 D2 hz hI hO s1 s2 hk fun h' e kk ho tk=>?_
  obtain ⟨o,e1,e2⟩:=ho
  exact wpAny_bind (wpAny_isInstance (T:="StopIteration") (b:=true) ⟨o,e1,e2⟩ isSubtype_stop (wpAny_pure (hQ h' tk kk)))
end
end M3
end
section
namespace M3
open PySem
open Sem (wp)
end M3
end
section
namespace L3
open PySem PySem.Spec PyProof.Rows L2 M3
section
variable {X:Cx} {pins:List (Addr×Obj)} {σ:L2.St} {H:Hp} {s:Shared}
theorem Za7 {P:Program} {w:World} {h:Heap} {D:Addr} {o:HO} (ok:HOk P w H h) (hn:H D=none) (new:ObjOk P w (upd H D o) h D o):HOk P w (upd H D o) h:=fun b u e=>by
  by_cases hb:b=D
  · subst hb; rw [yd] at e; cases e; exact new
  · rw [Zb hb] at e
    exact (ok b u e).stay (fun _ _ _ q=>q) (fun c q=>by rw [Zb (Yf q hn)]; exact q) fun c xs q=>by rw [Zb (Yf q hn)]; exact q
theorem zar {D:Addr} {o:HO} (I:Inv X pins σ H s) (f:qH X pins H D) (h0:X.s₀.heap.objs.size≤D) (new:ObjOk X.prog X.w (upd H D o) s.heap D o):Inv X pins σ (upd H D o) s:=by
  obtain ⟨f0,f1,f2,f3,f4,f5⟩:=f
  refine ⟨I.ok,I.os,I.bare,⟨I.base.keep,I.base.slot,fun b u e n hx=>?_,I.base.there,fun b xs e=>?_,fun b u xs e=>?_,fun b ps e=>?_⟩,I.loc,I.cell,?_,fun x c e=>?_,fun p hp=>?_,Za7 I.hok f0 new,I.len⟩
  · rw [Zb (Nat.ne_of_lt (Nat.lt_of_lt_of_le (Heap.lt_size e) h0))]; exact I.base.free b u e n hx
  · have q:=I.base.tups b xs e
    rw [Zb (Yf q f0)]; exact q
  · have q:=I.base.frzs b u xs e
    rw [Zb (Yf q f0)]; exact q
  · obtain ⟨m,q⟩:=I.base.tbls b ps e
    exact ⟨m,by rw [Zb (Yf q f0)]; exact q⟩
  · rw [Zb (Ne.symm f1)]; exact I.free
  · rw [Zb (f4 x c e)]; exact I.freeC x c e
  · obtain ⟨e1,e2,e3,e4,e5⟩:=I.pin p hp
    exact ⟨e1,by rw [Zb (f5 p hp)]; exact e2,e3,e4,e5⟩
end
noncomputable def qw (sc:Scope) (N:List Str) (cs:Scope) (N':List Str) (ncv:Nat) (js:List Nat):Bool :=
  cs.kind == .function&&cs.names.all (fun y=>y.2 != .cell || cs.names.lookup y.1 == some .cell)&&cs.names.all (fun y=>y.2 != .free || (sc.names.lookup y.1 == some .cell || sc.names.lookup y.1 == some .free)) &&
  cs.names.all (fun y=>y.2 != .local || cs.names.lookup y.1 == some .local)&&(N'.drop ncv).all (fun x=>cs.names.lookup x == some .free)&&decide ((N'.drop ncv).map some=js.map (fun j=>N[j]?))&&decide (ncv≤N'.length)
structure CompOk (sc:Scope) (N:List Str) (cs:Scope) (N':List Str) (ncv:Nat) (js:List Nat):Prop where
  kind:cs.kind=.function
  cel:∀ y∈cs.names,y.2=.cell→cs.names.lookup y.1=some .cell
  free:∀ y∈cs.names,y.2=.free→sc.names.lookup y.1=some .cell∨sc.names.lookup y.1=some .free
  locs:∀ y∈cs.names,y.2=.local→cs.names.lookup y.1=some .local
  frees:∀ x∈N'.drop ncv,cs.names.lookup x=some .free
  at_:(N'.drop ncv).map some=js.map (fun j=>N[j]?)
  ncv:ncv≤N'.length
theorem CompOk.of {sc:Scope} {N:List Str} {cs:Scope} {N':List Str} {ncv:Nat} {js:List Nat} (h:qw sc N cs N' ncv js=true):CompOk sc N cs N' ncv js:=by
  simp only [qw,Bool.and_eq_true,List.all_eq_true,decide_eq_true_eq,Bool.or_eq_true,beq_iff_eq,bne_iff_ne,ne_eq] at h
  obtain ⟨⟨⟨⟨⟨⟨h1,h2⟩,h3⟩,h4⟩,h5⟩,h6⟩,h7⟩:=h
  exact ⟨h1,fun y hy e=>(h2 y hy).resolve_left fun z=>z e,fun y hy e=>(h3 y hy).resolve_left fun z=>z e,fun y hy e=>(h4 y hy).resolve_left fun z=>z e,h5,h6,h7⟩
theorem qz {names:List (Str×NameKind)} {x:Str} {k:NameKind} (h:names.lookup x=some k):(x,k)∈names:=PySem.mem_of_lookup h
theorem yU {env:Env}:∀ {names:List (Str×NameKind)} {x:Str},
    ((names.map fun (n,k)=>if (k == NameKind.free&&env.scope.kind == .function&&env.kindOf n == some .cell) then (n,NameKind.cell) else (n,k)).lookup x=some .cell ∨
      (names.map fun (n,k)=>if (k == NameKind.free&&env.scope.kind == .function&&env.kindOf n == some .cell) then (n,NameKind.cell) else (n,k)).lookup x=some .free)→names.lookup x=some .free∨names.lookup x=some .cell
  | [],_,h=>by simp at h
  | (n,k)::r,x,h=>by
    have ih:=@yU env r x
    rw [List.map_cons] at h
    by_cases hb:(k == NameKind.free&&env.scope.kind == .function&&env.kindOf n == some .cell)=true
    · have hkf:k=.free:=by
        simp only [Bool.and_eq_true,beq_iff_eq] at hb
        exact hb.1.1
      simp only [hb,if_true] at h
      cases hx:x == n with
      | true=>simp only [List.lookup_cons,hx]; rw [hkf]; exact .inl rfl
      | false =>
        simp only [List.lookup_cons,hx] at h ⊢
        exact ih h
    · simp only [hb,Bool.false_eq_true,if_false] at h
      cases hx:x == n with
      | true =>
        simp only [List.lookup_cons,hx] at h ⊢
        exact h.symm
      | false =>
        simp only [List.lookup_cons,hx] at h ⊢
        exact ih h
theorem ZH {env:Env}:∀ {names:List (Str×NameKind)} {x:Str},names.lookup x=some .free →
    ((names.map fun (n,k)=>if (k == NameKind.free&&env.scope.kind == .function&&env.kindOf n == some .cell) then (n,NameKind.cell) else (n,k)).lookup x=some .cell ∨
      (names.map fun (n,k)=>if (k == NameKind.free&&env.scope.kind == .function&&env.kindOf n == some .cell) then (n,NameKind.cell) else (n,k)).lookup x=some .free)
  | [],_,h=>by simp at h
  | (n,k)::r,x,h=>by
    have ih:=@ZH env r x
    rw [List.map_cons]
    cases hx:x == n with
    | true =>
      simp only [List.lookup_cons,hx] at h
      cases h
      by_cases hb:((NameKind.free:NameKind) == NameKind.free&&env.scope.kind == .function&&env.kindOf n == some .cell)=true
      · simp only [hb,if_true,List.lookup_cons,hx]; simp
      · simp only [hb,Bool.false_eq_true,if_false,List.lookup_cons,hx]; simp
    | false =>
      simp only [List.lookup_cons,hx] at h
      by_cases hb:(k == NameKind.free&&env.scope.kind == .function&&env.kindOf n == some .cell)=true
      · simp only [hb,if_true,List.lookup_cons,hx]; exact ih h
      · simp only [hb,Bool.false_eq_true,if_false,List.lookup_cons,hx]; exact ih h
theorem Qr {env:Env}:∀ (names:List (Str×NameKind)) (cs:List (Str×Addr)) {x:Str} {c:Addr},(∀ y∈names,y.2=.free→∃ c,env.cells.lookup y.1=some c)→(∀ x c,cs.lookup x=some c→env.cells.lookup x=some c) →
    (qd env names cs).lookup x=some c→env.cells.lookup x=some c
  | [],cs,x,c,_,hcs,h=>hcs x c h
  | (n,k)::r,cs,x,c,hn,hcs,h=>by
    refine Qr r _ (fun y hy=>hn y (List.mem_cons_of_mem _ hy)) (fun x' c' h'=>?_) h
    by_cases hk:(k == .free)=true
    · rw [if_pos hk] at h'
      obtain ⟨c0,e0⟩:=hn (n,k) List.mem_cons_self (by simpa using hk)
      cases hx:x' == n with
      | true =>
        simp only [List.lookup_cons,hx] at h'
        cases h'
        rw [beq_iff_eq.mp hx,e0]; rfl
      | false =>
        simp only [List.lookup_cons,hx] at h'
        exact hcs x' c' h'
    · rw [if_neg hk] at h'
      exact hcs x' c' h'
theorem YJ {env:Env}:∀ (names:List (Str×NameKind)) (cs:List (Str×Addr)) {x:Str},(∃ c,cs.lookup x=some c)→∃ c,(qd env names cs).lookup x=some c
  | [],cs,x,h=>h
  | (n,k)::r,cs,x,h=>by
    refine YJ r _ ?_
    by_cases hk:(k == .free)=true
    · rw [if_pos hk]
      cases hx:x == n with
      | true=>exact ⟨(env.cells.lookup n).getD 0,by simp only [List.lookup_cons,hx]⟩
      | false =>
        obtain ⟨c,e⟩:=h
        exact ⟨c,by simp only [List.lookup_cons,hx]; exact e⟩
    · rw [if_neg hk]; exact h
theorem QA {env:Env}:∀ (names:List (Str×NameKind)) (cs:List (Str×Addr)) {x:Str},(x,NameKind.free)∈names→∃ c,(qd env names cs).lookup x=some c
  | [],_,_,h=>nomatch h
  | (n,k)::r,cs,x,h=>by
    rcases List.mem_cons.mp h with e | h
    · cases e
      refine YJ r _ ?_
      rw [if_pos (by decide)]
      exact ⟨(env.cells.lookup n).getD 0,by simp only [List.lookup_cons,beq_self_eq_true]⟩
    · exact QA r _ h
theorem YaC:∀ (names:List (Str×NameKind)) (n n0:Nat) (acc:List (Str×Addr)) {x:Str},n0≤n→(∃ c,acc.lookup x=some c∧n0≤c)→∃ c,(cellsFrom n names acc).lookup x=some c∧n0≤c
  | [],_,_,_,_,_,h=>h
  | (y,k)::r,n,n0,acc,x,hn,h=>by
    unfold cellsFrom
    split
    · refine YaC r (n + 1) n0 _ (by omega) ?_
      cases hx:x == y with
      | true=>exact ⟨n,by simp only [List.lookup_cons,hx],hn⟩
      | false =>
        obtain ⟨c,e,l⟩:=h
        exact ⟨c,by simp only [List.lookup_cons,hx]; exact e,l⟩
    · exact YaC r n n0 acc hn h
theorem yaz:∀ (names:List (Str×NameKind)) (n:Nat) (acc:List (Str×Addr)) {x:Str},(x,NameKind.cell)∈names→∃ c,(cellsFrom n names acc).lookup x=some c∧n≤c
  | [],_,_,_,h=>nomatch h
  | (y,k)::r,n,acc,x,h=>by
    unfold cellsFrom
    rcases List.mem_cons.mp h with e | h
    · cases e
      rw [if_pos (by decide)]
      exact YaC r (n + 1) n _ (by omega) ⟨n,by simp only [List.lookup_cons,beq_self_eq_true],Nat.le_refl _⟩
    · split
      · obtain ⟨c,e,l⟩:=yaz r (n + 1) ((y,n)::acc) h
        exact ⟨c,e,by omega⟩
      · exact yaz r n acc h
theorem yX:∀ (names:List (Str×NameKind)) (n:Nat) (acc:List (Str×Addr)) {x:Str},(x,NameKind.cell)∉names→(cellsFrom n names acc).lookup x=acc.lookup x
  | [],_,_,_,_=>rfl
  | (y,k)::r,n,acc,x,h=>by
    unfold cellsFrom
    split
    · rename_i hk
      rw [yX r (n + 1) _ fun z=>h (List.mem_cons_of_mem _ z)]
      have:(x == y)=false:=by
        rw [beq_eq_false_iff_ne]
        intro e; subst e
        have:k=.cell:=by simpa using hk
        subst this
        exact h List.mem_cons_self
      simp only [List.lookup_cons,this]
    · exact yX r n acc fun z=>h (List.mem_cons_of_mem _ z)
theorem YS:∀ (names:List (Str×NameKind)) (n:Nat) (acc:List (Str×Addr)) {x:Str} {c:Addr},(cellsFrom n names acc).lookup x=some c→acc.lookup x=some c∨n≤c
  | [],_,_,_,_,h=>.inl h
  | (y,k)::r,n,acc,x,c,h=>by
    unfold cellsFrom at h
    split at h
    · rcases YS r (n + 1) _ h with e | e
      · cases hx:x == y with
        | true=>simp only [List.lookup_cons,hx] at e; cases e; exact .inr (Nat.le_refl _)
        | false=>simp only [List.lookup_cons,hx] at e; exact .inl e
      · exact .inr (by omega)
    · exact YS r n acc h
theorem QaV:∀ (names:List (Str×NameKind)) (n:Nat) (acc:List (Str×Addr)),(∀ x c,acc.lookup x=some c→c < n)→(∀ x y c,acc.lookup x=some c→acc.lookup y=some c→x=y) →
    ∀ x y c,(cellsFrom n names acc).lookup x=some c→(cellsFrom n names acc).lookup y=some c→x=y
  | [],_,_,_,hi=>hi
  | (z,k)::r,n,acc,hb,hi=>by
    unfold cellsFrom
    split
    · refine QaV r (n + 1) _ (fun x c e=>?_) fun x y c e1 e2=>?_
      · cases hx:x == z with
        | true=>simp only [List.lookup_cons,hx] at e; cases e; exact Nat.lt_succ_self _
        | false=>simp only [List.lookup_cons,hx] at e; exact Nat.lt_succ_of_lt (hb x c e)
      · cases hx:x == z with
        | true =>
          simp only [List.lookup_cons,hx] at e1
          cases e1
          cases hy:y == z with
          | true=>rw [beq_iff_eq.mp hx,beq_iff_eq.mp hy]
          | false=>simp only [List.lookup_cons,hy] at e2; exact absurd (hb y _ e2) (Nat.lt_irrefl _)
        | false =>
          simp only [List.lookup_cons,hx] at e1
          cases hy:y == z with
          | true=>simp only [List.lookup_cons,hy] at e2; cases e2; exact absurd (hb x _ e1) (Nat.lt_irrefl _)
          | false=>simp only [List.lookup_cons,hy] at e2; exact hi x y c e1 e2
    · exact QaV r n acc hb hi
theorem Zaw:∀ (names:List (Str×NameKind)) (h:Heap) (acc:List (Str×Addr)),(∀ x c,acc.lookup x=some c→∃ v,h.IsCell c v)→∀ x c,(cellsFrom h.objs.size names acc).lookup x=some c→∃ v,(pushCells h names).IsCell c v
  | [],_,_,hc=>hc
  | (y,k)::r,h,acc,hc=>by
    unfold cellsFrom pushCells
    split
    · have:=Zaw r (h.push {cls:=.type "cell",data:=.cell none}) ((y,h.objs.size)::acc) fun x c e=>by
        cases hx:x == y with
        | true=>simp only [List.lookup_cons,hx] at e; cases e; exact ⟨none,_,Heap.get?_push_size _ rfl,rfl⟩
        | false =>
          simp only [List.lookup_cons,hx] at e
          obtain ⟨v,q⟩:=hc x c e
          exact ⟨v,q.keeps fun b o e=>Heap.get?_push_of_some _ e⟩
      rwa [Heap.size_push] at this
    · exact Zaw r h acc hc
theorem Qao {M:Model} {A:Around} {E:Value→Shared→Prop} {s:Shared} {scope:Scope} {globals:Addr} {closure:List (Str×Addr)} {qual:Str} {func:Option Addr} {code:Value} {env:Env} {builtins:Addr} {Q:Env→Shared→Prop}
    (hQ:∀ h',h'.Ns s.heap.objs.size (fun _=>none)→(∀ b o,s.heap.get? b=some o→h'.get? b=some o) →
      ((∀ x c,closure.lookup x=some c→∃ v,s.heap.IsCell c v)→∀ x c,(cellsFrom (s.heap.objs.size + 1) scope.names closure).lookup x=some c→∃ v,h'.IsCell c v) →
      Q (newEnv scope s.heap.objs.size globals (cellsFrom (s.heap.objs.size + 1) scope.names closure) qual func code (some env) builtins) {s with heap:=h'}) :
    wpAny M A (newFunctionEnv scope globals closure [] qual func code (some env) builtins) Q E s:=by
  simp only [newFunctionEnv,Option.isSome_some,if_true]
  refine wpAny_bind (wpAny_alloc ?_)
  refine wpAny_bind (wpAny_layCells _ (fun name kind cells=>by cases hkc:kind == NameKind.cell <;> simp [hkc]) _ _ _ _ ?_)
  rw [show ({s with heap:=s.heap.push {cls:=.type "dict",data:=.dict #[]}}:Shared).heap.objs.size=s.heap.objs.size + 1 from Heap.size_push ..]
  refine wpAny_bind (wpAny_pure (wpAny_pure (hQ _ ?_ ?_ ?_)))
  · exact (Heap.Ns.new s.heap (.type "dict")).keeps (pushCells_keeps _ _)
  · exact fun b o e=>pushCells_keeps _ _ b o (Heap.get?_push_of_some _ e)
  · intro hc
    have:=Zaw scope.names (s.heap.push {cls:=.type "dict",data:=.dict #[]}) closure fun x c e=>let ⟨v,q⟩:=hc x c e; ⟨v,q.keeps fun b o e=>Heap.get?_push_of_some _ e⟩
    rwa [Heap.size_push] at this
noncomputable def cxC (X:Cx) (cs:Scope) (N':List Str) (C:Addr) (s3:Shared) (H:Hp) (ex:List Addr):Cx :=
  {X with N:=N',s₀:=s3,H₀:=H,env:=compEnvC cs (cellsFrom (C + 1) cs.names (qd X.env cs.names [])) C X.env,outer:=X.stack,stack:=X.stack,ex:=ex,fn:=fun x=>cs.names.lookup x == some .cell,xe:=fun _ _=>False}
noncomputable def stC (ncv:Nat) (js:List Nat) (σ:L2.St):L2.St:=List.replicate ncv none++js.map fun j=>(σ[j]?).join
section
variable {X:Cx} {pins:List (Addr×Obj)} {σ:L2.St} {H:Hp} {s3:Shared}
theorem yaX {cs:Scope} {N':List Str} {ncv:Nat} {js:List Nat} {ex:List Addr} {h1:Heap} {tk:Nat} (I:Inv X pins σ H s3) (ok:CompOk X.env.scope X.N cs N' ncv js) (hex:∀ b∈ex,qH X pins H b∧b < s3.heap.objs.size)
    (hns:h1.Ns s3.heap.objs.size fun _=>none) (hk:∀ b o,s3.heap.get? b=some o→h1.get? b=some o)
    (hcl:(∀ x c,(qd X.env cs.names []).lookup x=some c→∃ v,s3.heap.IsCell c v)→∀ x c,(cellsFrom (s3.heap.objs.size + 1) cs.names (qd X.env cs.names [])).lookup x=some c→∃ v,h1.IsCell c v) :
    Inv (cxC X cs N' s3.heap.objs.size s3 H ex) [] (stC ncv js σ) H {s3 with heap:=h1,toks:=tk}:=by
  have hfc:∀ y∈cs.names,y.2=.free→∃ c,X.env.cells.lookup y.1=some c:=fun y hy e=>I.ok.has y.1 (ok.free y hy e)
  have lk:∀ {x c},(qd X.env cs.names []).lookup x=some c→X.env.cells.lookup x=some c:=fun {x c} h=>Qr cs.names [] hfc (fun _ _ z=>by simp at z) h
  have clt:∀ {x c},X.env.cells.lookup x=some c→c < s3.heap.objs.size:=fun {x c} e=>let ⟨v,q⟩:=I.cell x c e; q.lt
  have cl2:=hcl fun x c e=>I.cell x c (lk e)
  have spl:∀ {x c},(cellsFrom (s3.heap.objs.size + 1) cs.names (qd X.env cs.names [])).lookup x=some c→X.env.cells.lookup x=some c∨s3.heap.objs.size + 1≤c:=fun {x c} e=>(YS cs.names _ _ e).imp lk id
  have nown:∀ {x},cs.names.lookup x=some .free→(x,NameKind.cell)∉cs.names:=fun {x} e z=>by have:=ok.cel _ z rfl; rw [e] at this; cases this
  refine ⟨⟨I.ok.mod,ok.kind,I.ok.glob,I.ok.blt,Nat.le_refl _,fun x y c e1 e2=>QaV cs.names _ _ (fun x c e=>Nat.lt_succ_of_lt (clt (lk e))) (fun x y c e1 e2=>I.ok.inj x y c (lk e1) (lk e2)) x y c e1 e2,fun x hx=>?_,fun x c z e=>?_,I.ok.hd,I.ok.frames,.inl rfl,fun b hb=>?_,I.bs,Nat.le_trans I.ok.bsz I.sz,fun b o e hb=>?_,fun b hb=>?_,I.stack,I.stkFree⟩,
    rfl,I.bare,Un.kept hk,⟨_,hns,fun i x v e1 e2 e3=>?_⟩,fun x c e=>cl2 x c e,I.hok.fresh (Nat.le_refl _),fun x c e=>(spl e).elim (fun q=>I.freeC x c q) fun q=>I.hok.fresh (by omega),fun p hp=>?_,I.hok.kept hk,?_⟩
  · rcases yU hx with hx | hx
    · rw [show ∀ n,(cxC X cs N' s3.heap.objs.size s3 H ex).env.cells.lookup x=(cellsFrom (s3.heap.objs.size + 1) cs.names (qd X.env cs.names [])).lookup x from fun _=>rfl]
      · rw [yX _ _ _ (nown hx)]
        exact QA cs.names [] (qz hx)
      · exact 0
    · obtain ⟨c,e,_⟩:=yaz cs.names (s3.heap.objs.size + 1) (qd X.env cs.names []) (qz hx)
      exact ⟨c,e⟩
  · have z':cs.names.lookup x=some .cell:=by simpa using (show (cs.names.lookup x == some .cell)=true from z)
    obtain ⟨c',e',l⟩:=yaz cs.names (s3.heap.objs.size + 1) (qd X.env cs.names []) (qz z')
    have:c=c':=by
      have e2:(cellsFrom (s3.heap.objs.size + 1) cs.names (qd X.env cs.names [])).lookup x=some c:=e
      rw [e'] at e2; exact (Option.some.inj e2).symm
    rw [this]
    exact Nat.le_of_succ_le l
  · obtain ⟨⟨_,_,_,_,f4,_⟩,lt⟩:=hex b hb
    refine ⟨Nat.ne_of_lt lt,fun x c e=>?_⟩
    rcases spl e with q | q
    · exact f4 x c q
    · exact Nat.ne_of_gt (Nat.lt_trans lt q)
  · obtain ⟨⟨_,_,_,f3,_,_⟩,_⟩:=hex b hb
    rcases f3 with f3 | f3
    · exact I.ok.noex b o e f3
    · exact absurd (Nat.lt_of_lt_of_le (Heap.lt_size e) (Nat.le_trans I.ok.bsz f3)) (Nat.lt_irrefl _)
  · obtain ⟨⟨_,f1,f2,_,_,_⟩,_⟩:=hex b hb
    intro z
    rcases List.mem_cons.mp (I.stkSub b z) with e | e
    · exact f1 e
    · exact f2 e
  · -- a name around, by its cell
    have hi:¬ i < ncv:=fun hi=>by
      unfold stC at e2
      rw [List.getElem?_append_left (by simpa using hi),List.getElem?_replicate,if_pos hi] at e2
      cases e2
    have ex1:(N'.drop ncv)[i - ncv]?=some x:=by
      rw [List.getElem?_drop]
      have q:ncv + (i - ncv)=i:=by omega
      rw [q]; exact e1
    have hfree:=ok.frees x (List.mem_of_getElem? ex1)
    have eN:(js.map fun j=>X.N[j]?)[i - ncv]?=some (some x):=by rw [← ok.at_,List.getElem?_map,ex1]; rfl
    unfold stC at e2
    rw [List.getElem?_append_right (by simpa using Nat.le_of_not_lt hi),List.length_replicate,List.getElem?_map] at e2
    rw [List.getElem?_map] at eN
    cases ej:js[i - ncv]? with
    | none=>rw [ej] at e2; cases e2
    | some j =>
      rw [ej] at e2 eN
      have e2':(σ[j]?).join=some v:=Option.some.inj e2
      have eN':X.N[j]?=some x:=Option.some.inj eN
      have eσ:σ[j]?=some (some v):=by
        cases q:σ[j]? with
        | none=>rw [q] at e2'; cases e2'
        | some u=>rw [q] at e2'; exact congrArg some e2'
      have hvis:X.env.scope.names.lookup x=some .cell∨X.env.scope.names.lookup x=some .free:=ok.free (x,.free) (qz hfree) rfl
      obtain ⟨m,hn,hl⟩:=I.loc
      obtain ⟨u,r,l⟩:=hl j x v eN' eσ (.inr hvis)
      refine ⟨u,r,.inr ⟨ZH hfree,?_⟩⟩
      rcases l with ⟨k,_⟩ | ⟨_,c,ec,z⟩
      · rcases hvis with q | q
        · rw [show X.env.kindOf x=X.env.scope.names.lookup x from rfl,q] at k; cases k
        · rw [show X.env.kindOf x=X.env.scope.names.lookup x from rfl,q] at k; cases k
      · obtain ⟨c',ec'⟩:=QA (env:=X.env) cs.names [] (qz hfree)
        have:=lk ec'
        rw [ec] at this; cases this
        obtain ⟨o,ho,hd⟩:=z
        refine ⟨c,?_,o,hk c o ho,hd⟩
        show (cellsFrom (s3.heap.objs.size + 1) cs.names (qd X.env cs.names [])).lookup x=some c
        rw [yX _ _ _ (nown hfree)]; exact ec'
  · have hp':p∈X.pn:=by
      have hp1:p∈X.pn++[]:=hp
      rw [List.append_nil] at hp1
      exact hp1
    obtain ⟨e1,e2,e3,e4,e5⟩:=I.pin p (List.mem_append_left _ hp')
    refine ⟨hk _ _ e1,e2,Nat.ne_of_lt (Heap.lt_size e1),fun z=>?_,e5⟩
    rcases List.mem_cons.mp (I.stkSub p.1 z) with e | e
    · exact e3 e
    · exact e4 e
  · have q:=congrArg List.length ok.at_
    rw [List.length_map,List.length_map,List.length_drop] at q
    unfold stC
    show _=N'.length
    rw [List.length_append,List.length_replicate,List.length_map]
    have:=ok.ncv
    omega
end
section
variable {X:Cx}
noncomputable def PIf (X:Cx) (ifs:List Expr) (t:TT):Prop:=∀ (pins:List (Addr×Obj)) (s:Shared) (σ:L2.St) (H:Hp) (Q:Bool→Hp→Prop),Inv X pins σ H s→t σ H Q→wpAny (model X.prog X.w) X.A (zbP ifs X.env) (TP X pins σ Q) X.xe s
noncomputable def tYes:TT:=fun _ H Q=>Q true H
theorem ybJ:PIf X [] tYes:=fun pins s σ H Q I h=>wpAny_tests_nil ⟨H,I,h⟩
theorem Zbz {c:Expr} {t:TT} (h:PT X c t):PIf X [c] t:=fun pins s σ H Q I hw=>wpAny_tests_one (h pins s σ H Q I hw)
noncomputable def CompW (J:It) (ncv:Nat) (js:List Nat) (g:TG) (tc:TT) (te:TE) (σ:L2.St) (H:Hp) (Q:VK):Prop :=
  ∃ W:Nat→Nat→List V→L2.St→Hp→Prop,(∃ m,W 0 m [] (stC ncv js σ) H)∧∀ i m acc σ' H',W i m acc σ' H' →
    (J.stop i H'∧∀ D,H' D=none→Q (.ref D) (upd H' D (.lst acc))) ∨
    (J.go i H'∧∀ x H2,J.yld i H' x H2→g x σ' H2 fun σ2 H3=>tc σ2 H3 fun b H4 =>
      if b=true then te σ2 H4 fun y H5=>acc.length < sizeLine∧∃ m',m' < m∧W (i + 1) m' (acc++[y]) σ2 H5 else ∃ m',m' < m∧W (i + 1) m' acc σ2 H4)
noncomputable def qbr (wi:TI) (ncv:Nat) (js:List Nat) (g:TG) (tc:TT) (te:TE):TE:=fun σ H Q=>wi σ H fun J H1=>CompW J ncv js g tc te σ H1 Q
theorem zk {Y:Cx} {pins:List (Addr×Obj)} {σ:L2.St} {H:Hp} {s:Shared} {b:Addr} {o:Obj} (I:Inv Y pins σ H s) (h:(b,o)∈pins):s.heap.get? b=some o∧H b=none :=
  let z:=I.pin (b,o) (List.mem_append_right _ h); ⟨z.1,z.2.1⟩
noncomputable def ZbQ (X:Cx) (J:It) (fp:List Addr) (it:Addr) (tn:Nat→Heap→Prop):Prop :=
  ∀ (Y:Cx),Y.prog=X.prog→Y.w=X.w→Y.K=X.K→Y.calm=X.calm→Y.A=X.A→Y.pn=X.pn→∀ (i:Nat) (pins:List (Addr×Obj)) (s:Shared) (σ:L2.St) (H:Hp) (E:Value→Shared→Prop),Inv Y pins σ H s→(∀ b∈fp,qH Y pins H b)→tn i s.heap→J.stop i H →
    wpAny (model X.prog X.w) X.A (pyNext (.ref it)) (fun r s1=>r=none∧Inv Y pins σ H s1) E s
noncomputable def qbQ (X:Cx) (tg:Expr) (J:It) (fp:List Addr) (it:Addr) (tn:Nat→Heap→Prop):Prop :=
  ∀ (Y:Cx),Y.prog=X.prog→Y.w=X.w→Y.K=X.K→Y.calm=X.calm→Y.A=X.A→∀ (i:Nat) (pins:List (Addr×Obj)) (s:Shared) (σ:L2.St) (H:Hp) (E:Value→Shared→Prop),Inv Y pins σ H s→(∀ b∈fp,qH Y pins H b)→tn i s.heap→J.go i H →
    wpAny (model X.prog X.w) X.A (pyNext (.ref it)) (fun r s1=>∃ u,r=some u ∧
      wpAny (model X.prog X.w) X.A (letOwnedTupleGo tg (.ref it) u) (fun _ s2=>∃ x H',Inv Y pins σ H' s2∧RelV x u∧J.yld i H x H'∧tn (i + 1) s2.heap∧∀ b∈fp,H' b=none) E s1) E s
theorem zaf {elt iter tg:Expr} {ifs:List Expr} {cs:Scope} {pos:Pos} {N':List Str} {ncv:Nat} {js:List Nat} {g:TG} {tc:TT} {te:TE} {pins:List (Addr×Obj)} {σ:L2.St} {H2:Hp} {s2:Shared} {it:Addr} {fp:List Addr} {tn:Nat→Heap→Prop} {J:It} {Q:VK}
    {RR:Value→Addr→Result→Shared→Prop} {E:Value→Shared→Prop}
    (ok:CompOk X.env.scope X.N cs N' ncv js) (hg:∀ C s3 H ex,PG (cxC X cs N' C s3 H ex) tg g) (hif:∀ C s3 H ex,PIf (cxC X cs N' C s3 H ex) ifs tc) (helt:∀ C s3 H ex,PE (cxC X cs N' C s3 H ex) elt te)
    (I2:Inv X pins σ H2 s2) (mem:it∈fp) (obj:∀ i h,tn i h→∀ b∈fp,∃ o,h.get? b=some o∧∀ v,o.data≠.cell v) (keep:∀ i h h',tn i h→(∀ b∈fp,∀ o,h.get? b=some o→h'.get? b=some o)→tn i h')
    (item:qbQ X tg J fp it tn) (done:ZbQ X J fp it tn) (self:∀ (A:Around) (i:Nat) (s:Shared) (Q:Value→Shared→Prop) (E:Value→Shared→Prop),tn i s.heap→Q (.ref it) s→wpAny (model X.prog X.w) A (pyIter (.ref it)) Q E s)
    (st2:tn 0 s2.heap) (f2:∀ b∈fp,qH X pins H2 b) (W:Nat→Nat→List V→L2.St→Hp→Prop) (w0:∃ m,W 0 m [] (stC ncv js σ) H2)
    (turn:∀ i m acc σ' H',W i m acc σ' H'→(J.stop i H'∧∀ D,H' D=none→Q (.ref D) (upd H' D (.lst acc))) ∨
      (J.go i H'∧∀ x H2,J.yld i H' x H2→g x σ' H2 fun σ2 H3=>tc σ2 H3 fun b H4 =>
        if b=true then te σ2 H4 fun y H5=>acc.length < sizeLine∧∃ m',m' < m∧W (i + 1) m' (acc++[y]) σ2 H5 else ∃ m',m' < m∧W (i + 1) m' acc σ2 H4))
    (fin:∀ (D C:Addr) (acc:List V) (H':Hp) (s6:Shared),Inv X pins σ (upd H' D (.lst acc)) s6→qH X pins (upd H' D (.lst acc)) C→X.s₀.heap.objs.size≤C→(∃ m,s6.heap.Ns C m)→Q (.ref D) (upd H' D (.lst acc))→RR (.ref D) C (.ok .next) s6) :
    wpAny (model X.prog X.w) X.A (newList []) (fun acc s3=>wpAny (model X.prog X.w) X.A (newFunctionEnv cs X.env.globals (qd X.env cs.names []) [] X.env.qual none .none (some X.env)) (fun cenv s4 =>
      codeAny (model X.prog X.w) X.A (.compStart (.ListComp elt [⟨tg,iter,ifs,0⟩] cs pos) 0 (.ref it) acc {cenv with scope:=relabel cs X.env}) (RR acc cenv.locals) s4) E s3) E s2:=by
  refine wpAny_newObj_type (Qao fun h1 hns hup hcl=>?_)
  obtain ⟨s3,es3⟩:∃ s3:Shared,s3={s2 with heap:=s2.heap.push {cls:=.type "list",dict:=none,data:=.seq ([]:List Value).toArray}}:=⟨_,rfl⟩
  have I3:Inv X pins σ H2 s3:=by rw [es3]; exact I2.kept (t':=s2.toks) fun b o e=>Heap.get?_push_of_some _ e
  have sz3:s3.heap.objs.size=s2.heap.objs.size + 1:=by rw [es3]; exact Heap.size_push ..
  have gD3:s3.heap.get? s2.heap.objs.size=some {cls:=.type "list",dict:=none,data:=.seq ([]:List Value).toArray}:=by rw [es3]; exact Heap.get?_push_size _ rfl
  have up3:∀ b o,s2.heap.get? b=some o→s3.heap.get? b=some o:=fun b o e=>by rw [es3]; exact Heap.get?_push_of_some _ e
  have es4:∀ tk,({s2 with heap:=h1,toks:=tk}:Shared)={s3 with heap:=h1,toks:=tk}:=fun tk=>by rw [es3]
  have hns':h1.Ns s3.heap.objs.size fun _=>none:=by rw [es3]; exact hns
  have up4:∀ b o,s3.heap.get? b=some o→h1.get? b=some o:=by rw [es3]; exact hup
  have hcl':(∀ x c,(qd X.env cs.names []).lookup x=some c→∃ v,s3.heap.IsCell c v)→∀ x c,(cellsFrom (s3.heap.objs.size + 1) cs.names (qd X.env cs.names [])).lookup x=some c→∃ v,h1.IsCell c v:=by rw [es3]; exact hcl
  generalize hD:s2.heap.objs.size=D at *
  have fD:qH X pins H2 D:=I2.fpOk (Nat.le_of_eq hD) (I2.hok.fresh (Nat.le_of_eq hD))
  have szD:X.s₀.heap.objs.size≤D:=hD ▸ I2.sz
  have ltf:∀ b∈fp,b < D:=fun b hb=>let ⟨o,e,_⟩:=obj 0 _ st2 b hb; hD ▸ Heap.lt_size e
  have hex:∀ b∈D::fp,qH X pins H2 b∧b < s3.heap.objs.size:=fun b hb=>by
    rcases List.mem_cons.mp hb with e | hb
    · subst e; exact ⟨fD,by rw [sz3]; exact Nat.lt_succ_self _⟩
    · exact ⟨f2 b hb,by rw [sz3]; exact Nat.lt_succ_of_lt (ltf b hb)⟩
  obtain ⟨C,hC⟩:∃ C,C=s3.heap.objs.size:=⟨_,rfl⟩
  have I4:∀ tk,Inv (cxC X cs N' C s3 H2 (D::fp)) [] (stC ncv js σ) H2 {s3 with heap:=h1,toks:=tk}:=fun tk=>by rw [hC]; exact yaX I3 ok hex hns' up4 hcl'
  have DC:D≠C:=by rw [hC,sz3]; exact Nat.ne_of_lt (Nat.lt_succ_self _)
  -- the iterator's objects, and the list, in the block
  have fpY:∀ {pl:List (Addr×Obj)} {H':Hp} {b:Addr},b∈D::fp→H' b=none→(∀ p∈pl,p.1≠b)→qH (cxC X cs N' C s3 H2 (D::fp)) pl H' b:=fun {pl H' b} hb hn hp=>by
    obtain ⟨⟨g0,g1,g2,g3,g4,g5⟩,lt⟩:=hex b hb
    refine ⟨hn,hC ▸ Nat.ne_of_lt lt,fun z=>?_,.inl hb,fun x c e=>?_,fun p hp'=>?_⟩
    · rcases List.mem_cons.mp (I3.stkSub b z) with e | e
      · exact g1 e
      · exact g2 e
    · rcases YS cs.names _ _ e with q | q
      · exact g4 x c (Qr cs.names [] (fun y hy e=>I3.ok.has y.1 (ok.free y hy e)) (fun _ _ z=>by simp at z) q)
      · exact Nat.ne_of_gt (Nat.lt_trans (hC ▸ lt) q)
    · rcases List.mem_append.mp hp' with z | z
      · exact g5 p (List.mem_append_left _ z)
      · exact hp p z
  have lp:∀ tk,codeAny (model X.prog X.w) X.A (.compLoop (.ListComp elt [⟨tg,iter,ifs,0⟩] cs pos) 0 (.ref it) (.ref D) (cxC X cs N' C s3 H2 (D::fp)).env) (RR (.ref D) C) {s3 with heap:=h1,toks:=tk}:=fun tk=>by
    obtain ⟨m0,w0⟩:=w0
    refine Ya6 (fun n s=>∃ i acc ys k σ' H',Inv (cxC X cs N' C s3 H2 (D::fp)) [] σ' H' s∧tn i s.heap∧(∀ b∈fp,H' b=none)∧H' D=none∧s.heap.get? D=some {cls:=.type "list",data:=.seq ys k}∧Vals acc ys.toList∧acc.length≤sizeLine∧W i n acc σ' H') ?_ m0
      ⟨0,[],#[],0,_,_,I4 tk,keep _ _ _ st2 fun b hb o e=>up4 b o (up3 b o e),fun b hb=>(f2 b hb).1,fD.1,up4 _ _ gD3,.nil,Nat.zero_le _,w0⟩
    rintro n s5 ⟨i,acc,ys,k,σ5,H5,I5,t5,n5,d5,g5,v5,l5,w5⟩
    have I5p:=I5.pinned (fp:=[D]) (fun b hb=>by obtain rfl:=List.mem_singleton.mp hb; exact fpY List.mem_cons_self d5 fun p hp=>nomatch hp) (fun b hb=>by obtain rfl:=List.mem_singleton.mp hb; exact ⟨_,g5,fun v z=>nomatch z⟩)
    have hpin:QX [D] s5.heap=[(D,{cls:=.type "list",data:=.seq ys k})]:=by simp [QX,g5]
    rw [hpin,List.nil_append] at I5p
    have fpp:∀ b∈fp,qH (cxC X cs N' C s3 H2 (D::fp)) [(D,{cls:=.type "list",data:=.seq ys k})] H5 b:=fun b hb=>fpY (List.mem_cons_of_mem _ hb) (n5 b hb) fun p hp=>by
      obtain rfl:=List.mem_singleton.mp hp
      exact Nat.ne_of_gt (ltf b hb)
    rcases turn i n acc σ5 H5 w5 with ⟨stop,qf⟩ | ⟨go,step⟩
    · refine thn (done (cxC X cs N' C s3 H2 (D::fp)) rfl rfl rfl rfl rfl rfl i _ s5 σ5 H5 _ I5p fpp t5 stop) fun r s6 ⟨hr,I6⟩=>?_
      subst hr
      obtain ⟨g6,d6⟩:=zk I6 (List.mem_singleton.mpr rfl)
      have IX:Inv X pins σ H5 s6:=I3.call' (ch:=D::fp) I6.os I6.base I6.hok I6.bare fun b hb=>by
        obtain ⟨⟨_,e1,_,e3,e4,e5⟩,_⟩:=hex b hb
        exact ⟨e3,e1,e4,e5⟩
      obtain ⟨_,e1,e2,e3,e4,e5⟩:=fD
      have IXD:=zar (o:=.lst acc) IX ⟨d6,e1,e2,e3,e4,e5⟩ szD ⟨l5,ys.toList,k,v5,by simpa using g6⟩
      have fC:qH X pins (upd H5 D (.lst acc)) C:=by
        have hn:(upd H5 D (.lst acc)) C=none:=by rw [Zb (Ne.symm DC)]; exact I6.free
        have z:=I3.fpOk (b:=C) (Nat.le_of_eq hC.symm) (I3.hok.fresh (Nat.le_of_eq hC.symm))
        exact ⟨hn,z.2⟩
      obtain ⟨m,hm,_⟩:=I6.loc
      exact fin D C acc H5 s6 IXD fC (Nat.le_trans szD (by rw [hC,sz3]; exact Nat.le_succ _)) ⟨m,hm⟩ (qf D d6)
    · refine thn (item (cxC X cs N' C s3 H2 (D::fp)) rfl rfl rfl rfl rfl i _ s5 σ5 H5 _ I5p fpp t5 go) fun r s6 ⟨u,hr,h6⟩=>?_
      subst hr
      refine thn h6 fun _ s7 ⟨x,H7,I7,r7,y7,t7,n7⟩=>?_
      obtain ⟨g7,d7⟩:=zk I7 (List.mem_singleton.mpr rfl)
      have I7p:=I7.pinned (fp:=fp) (fun b hb=>fpY (List.mem_cons_of_mem _ hb) (n7 b hb) fun p hp=>by obtain rfl:=List.mem_singleton.mp hp; exact Nat.ne_of_gt (ltf b hb)) (obj _ _ t7)
      refine thn (hg _ _ _ _ _ s7 σ5 H7 x u _ I7p r7 (step x H7 y7)) fun _ s8 ⟨σ8,H8,I8,q8⟩=>?_
      refine thn (hif _ _ _ _ _ s8 σ8 H8 _ I8 q8) fun b s9 ⟨H9,I9,q9⟩=>?_
      cases b with
      | false =>
        rw [if_neg Bool.false_ne_true] at q9 ⊢
        obtain ⟨m',hm,w9⟩:=q9
        obtain ⟨g9,d9⟩:=zk I9 (List.mem_append_left _ (List.mem_singleton.mpr rfl))
        refine ⟨m',hm,i + 1,acc,ys,k,σ8,H9,I9.pins_of (fun p hp=>nomatch hp),keep _ _ _ t7 fun b hb o e=>(zk I9 (List.mem_append_right _ (zp hb e))).1,fun b hb=>?_,d9,g9,v5,l5,w9⟩
        obtain ⟨o,e,_⟩:=obj _ _ t7 b hb
        exact (zk I9 (List.mem_append_right _ (zp hb e))).2
      | true =>
        rw [if_pos rfl] at q9 ⊢
        refine thn (helt _ _ _ _ _ s9 σ8 H9 _ I9 q9) fun yv s10 ⟨y,H10,I10,r10,lt,m',hm,w10⟩=>?_
        obtain ⟨g10,d10⟩:=zk I10 (List.mem_append_left _ (List.mem_singleton.mpr rfl))
        have t10:tn (i + 1) s10.heap:=keep _ _ _ t7 fun b hb o e=>(zk I10 (List.mem_append_right _ (zp hb e))).1
        have n10:∀ b∈fp,H10 b=none:=fun b hb=>by
          obtain ⟨o,e,_⟩:=obj _ _ t7 b hb
          exact (zk I10 (List.mem_append_right _ (zp hb e))).2
        have I10':Inv (cxC X cs N' C s3 H2 (D::fp)) [] σ8 H10 s10:=I10.pins_of fun p hp=>nomatch hp
        have lys:ys.size=acc.length:=by have:=v5.length; simp at this; omega
        refine wpAny_list_append_plain (hsz:=by omega) (show s10.heap.PlainList D ys from ⟨k,g10⟩) fun h11 p11 sb11=>?_
        obtain ⟨_,a1,a2,a3,a4,a5⟩:=fpY (pl:=[]) (H':=H10) (b:=D) List.mem_cons_self d10 fun p hp=>nomatch hp
        obtain ⟨k11,g11⟩:=p11
        refine ⟨m',hm,i + 1,acc++[y],ys.push yv,k11,σ8,H10,I10'.turned (t':=s10.toks) (it:=D) (fun b o hb e=>(sb11.2 b hb).trans e) d10 a1 a3 a4 a5,keep _ _ _ t10 fun b hb o e=>(sb11.2 b (Nat.ne_of_lt (ltf b hb))).trans e,n10,d10,g11,?_,by rw [List.length_append,List.length_singleton]; exact lt,w10⟩
        rw [Array.toList_push]
        exact v5.append (.cons r10 .nil)
  have R1:∀ tk,codeAny (model X.prog X.w) X.A (.compStart (.ListComp elt [⟨tg,iter,ifs,0⟩] cs pos) 0 (.ref it) (.ref D) (cxC X cs N' C s3 H2 (D::fp)).env) (RR (.ref D) C) {s3 with heap:=h1,toks:=tk}:=fun tk =>
    codeAny_compStart_list (lp tk) (self _ 0 _ _ _ (keep _ _ _ st2 fun b hb o e=>up4 b o (up3 b o e)) (lp tk))
  have R2:=R1 s2.toks
  rw [← es4] at R2
  subst hD
  rw [hC,es3] at R2
  exact R2
end
section
variable {X:Cx} {pins:List (Addr×Obj)} {σ:L2.St} {H:Hp} {s:Shared} {h':Heap}
theorem ZA {t':Nat} {ch:List Addr} (I:Inv X pins σ H s) (f:∀ b∈ch,qH X pins H b) (k:∀ b o,b∉ch→s.heap.get? b=some o→h'.get? b=some o):Inv X pins σ H {s with heap:=h',toks:=t'}:=by
  have nt:∀ b u,H b=some u→b∉ch:=fun b u e z=>by
    have q:=(f b z).1
    rw [e] at q; cases q
  refine I.step (g':=s.gens) (d':=s.drawn) (ch:=ch) (fun b hb=>?_) (fun b o _ _ hc e _=>k b o hc e) (fun b o _ _ hc e _=>⟨o.slots,k b o hc e⟩) (fun _ _ _ _ n=>n) (fun b o hc e=>⟨o,k b o hc e⟩) (fun _ _ e=>e) (fun _ _ _ e=>e) (fun b ps e=>⟨#[],by rw [e]; simp⟩) (fun m hm=>?_) (fun b u e=>?_) I.bare
  · obtain ⟨_,f1,f2,f3,f4,f5⟩:=f b hb
    exact ⟨f3,f1,f4,f5⟩
  · obtain ⟨o,es,ep,ho,r⟩:=hm
    exact ⟨o,es,ep,k _ o (fun z=>(f _ z).2.1 rfl) ho,r⟩
  · refine (I.hok b u e).stay (fun c v hc q=>k c v ?_ q) (fun _ q=>q) fun _ _ q=>q
    rcases hc with z | z
    · rw [z]; exact nt b u e
    · exact nt c _ z
noncomputable def SqS (K:PySem.W.Frag) (H:Hp) (b:Bool) (a:Addr) (xs:List V):Prop:=if b=true then SqT K H a xs else SqL K H a xs
theorem yt {b:Bool} {a:Addr} {xs:List V} (I:Inv X pins σ H s) (h:SqS X.K H b a xs):∃ its:List Value,Vals xs its∧SeqIs s.heap b a its.toArray∧xs.length≤sizeLine:=by
  cases b with
  | false=>obtain ⟨its,r,p,z⟩:=I.list (show SqL X.K H a xs from h); exact ⟨its,r,p.isList,z⟩
  | true=>obtain ⟨its,r,p,z⟩:=I.tuple (show SqT X.K H a xs from h); exact ⟨its,r,p,z⟩
theorem Y4 {b:Bool} {a:Addr} {xs ys:List V} (I:Inv X pins σ H s) (h:SqS X.K H b a xs) (h':SqS X.K H b a ys):xs=ys:=by
  cases b with
  | false=>exact I.list_inj (show SqL X.K H a xs from h) h'
  | true=>exact I.tuple_inj (show SqT X.K H a xs from h) h'
noncomputable def Itz (K:PySem.W.Frag) (b1 b2:Bool) (a1 a2:Addr):It :=
  ⟨fun i H=>∃ xs ys,SqS K H b1 a1 xs∧SqS K H b2 a2 ys∧i < xs.length∧i < ys.length,
   fun i H x H'=>∃ T x1 y1,x=.ref T∧H T=none∧H'=upd H T (.tup [x1,y1])∧(∀ xs,SqS K H b1 a1 xs→xs[i]?=some x1)∧(∀ ys,SqS K H b2 a2 ys→ys[i]?=some y1),
   fun i H=>∃ xs ys,SqS K H b1 a1 xs∧SqS K H b2 a2 ys∧(i=xs.length∨(i < xs.length∧i=ys.length))⟩
theorem Ym {A:Around} (h:A.handled=none):A.in1.handled=none:=h
theorem qbw {P:Program} {w:World} {K:PySem.W.Frag} {es:List Expr} {kt:Nat} {pt:Pos} {b1 b2:Bool} {a1 a2 z TI TO i1 i2:Addr} (Z:∀ m,(∀ a∈[a1,a2],a < m)→(∀ a∈[z,TI,TO,i1,i2],m≤a)→ZAp z TI TO i1 i2 [i1,a1] [i2,a2])
    (m:Nat) (h1:∀ a∈[a1,a2],a < m) (h2:∀ a∈[z,TI,TO,i1,i2],m≤a) :
    Turn P w K (.Tuple es kt pt) (Itz K b1 b2 a1 a2) [z,TI,TO,i1,i2] z (fun i h=>IsZip h z TI TO .none∧IsPair h TI (.ref i1) (.ref i2)∧(∃ a b,IsPair h TO a b)∧SeqIt h b1 i1 a1 i∧SeqIt h b2 i2 a2 i) where
  mem:=by simp
  obj:=fun i h ⟨e1,e2,⟨a,b,e3⟩,e4,e5⟩ c hc=>by
    simp only [List.mem_cons,List.not_mem_nil,or_false] at hc
    rcases hc with rfl | rfl | rfl | rfl | rfl
    · exact ⟨_,e1,fun v q=>nomatch q⟩
    · exact ⟨_,e2,fun v q=>nomatch q⟩
    · exact ⟨_,e3,fun v q=>nomatch q⟩
    · exact e4.obj
    · exact e5.obj
  keep:=fun i h h' ⟨e1,e2,⟨a,b,e3⟩,e4,e5⟩ k=>⟨k z (by simp) _ e1,k TI (by simp) _ e2,⟨a,b,k TO (by simp) _ e3⟩,e4.keeps fun o e=>k i1 (by simp) o e,e5.keeps fun o e=>k i2 (by simp) o e⟩
  item:=by
    intro X hP hw hK hc i pins s σ H E I hf ⟨e1,e2,⟨a,b,e3⟩,e4,e5⟩ hg
    subst hP hw hK
    obtain ⟨xs,ys,q1,q2,l1,l2⟩:=hg
    obtain ⟨its1,v1,p1,_⟩:=yt I q1
    obtain ⟨its2,v2,p2,_⟩:=yt I q2
    have ZZ:=Z m h1 h2
    have n1:a1≠i1:=Nat.ne_of_lt (Nat.lt_of_lt_of_le (h1 a1 (by simp)) (h2 i1 (by simp)))
    have n2:a2≠i2:=Nat.ne_of_lt (Nat.lt_of_lt_of_le (h1 a2 (by simp)) (h2 i2 (by simp)))
    have D1:=yT (prog:=X.prog) (w:=X.w) (Ym (I.ok.hd hc)) b1 i1 a1 n1 its1.toArray
    have D2:=yT (prog:=X.prog) (w:=X.w) (Ym (I.ok.hd hc)) b2 i2 a2 n2 its2.toArray
    have hl1:=v1.length
    have hl2:=v2.length
    refine Q8 ZZ D1 D2 e1 e2 e3 ⟨e4,p1⟩ ⟨e5,p2⟩ (by simp; omega) (by simp; omega) fun x y g tk px py f1 f2 f3 f4 f5 f6 f7=>⟨_,rfl,?_⟩
    refine wpAny_letOwnedTupleGo_zip (s:={s with heap:=g,toks:=tk}) f1 fun g' f8 f9=>?_
    obtain ⟨x1,hx1⟩:∃ x1,xs[i]?=some x1:=⟨xs[i],by simp [l1]⟩
    obtain ⟨y1,hy1⟩:∃ y1,ys[i]?=some y1:=⟨ys[i],by simp [l2]⟩
    obtain ⟨u1,hu1,r1⟩:=v1.get hx1
    obtain ⟨u2,hu2,r2⟩:=v2.get hy1
    have ex:x=u1:=by have z:its1.toArray[i]?=some x:=px; simp [hu1] at z; exact z.symm
    have ey:y=u2:=by have z:its2.toArray[i]?=some y:=py; simp [hu2] at z; exact z.symm
    subst ex ey
    have zlt:z≠s.heap.objs.size:=Nat.ne_of_lt (Heap.lt_size e1)
    have I1:Inv X pins σ H {s with heap:=g',toks:=tk}:=ZA (ch:=[z,TI,TO,i1,i2]) I hf fun c o hc' e=>by
      simp only [List.mem_cons,List.not_mem_nil,or_false,not_or] at hc'
      exact (f9.2 c hc'.1).trans (f7 c o hc'.1 hc'.2.2.1 hc'.2.2.2.1 hc'.2.2.2.2 e)
    have fT:=I.fpOk (b:=s.heap.objs.size) (Nat.le_refl _) (I.hok.fresh (Nat.le_refl _))
    have gT:g'.get? s.heap.objs.size=some {cls:=.type "tuple",data:=.seq #[x,y]}:=(f9.2 _ (Ne.symm zlt)).trans f5
    have I2:Inv X pins σ (upd H s.heap.objs.size (.tup [x1,y1])) {s with heap:=g',toks:=tk}:=zar I1 fT I.sz ⟨by show 2≤sizeLine; decide,[x,y],.cons r1 (.cons r2 .nil),⟨_,gT,rfl,_,rfl⟩⟩
    have kz:∀ c∈[TI,TO,i1,i2],c≠z:=fun c hc'=>by
      simp only [List.mem_cons,List.not_mem_nil,or_false] at hc'
      rcases hc' with rfl | rfl | rfl | rfl
      · exact ZZ.tiz
      · exact ZZ.toz
      · exact fun q=>ZZ.z1 (q ▸ ZZ.m1)
      · exact fun q=>ZZ.z2 (q ▸ ZZ.m2)
    refine ⟨.ref s.heap.objs.size,_,I2,rfl,⟨_,x1,y1,rfl,fT.1,rfl,fun zs hz=>by rw [Y4 I hz q1]; exact hx1,fun zs hz=>by rw [Y4 I hz q2]; exact hy1⟩,
      ⟨f8,(f9.2 TI (kz TI (by simp))).trans (f7 TI _ ZZ.tiz ZZ.tito ZZ.ti1 ZZ.ti2 e2),⟨x,y,(f9.2 TO (kz TO (by simp))).trans f2⟩,f3.1.keeps fun o e=>(f9.2 i1 (kz i1 (by simp))).trans e,f4.1.keeps fun o e=>(f9.2 i2 (kz i2 (by simp))).trans e⟩,fun c hc'=>?_⟩
    have lt:c < s.heap.objs.size:=by
      simp only [List.mem_cons,List.not_mem_nil,or_false] at hc'
      rcases hc' with rfl | rfl | rfl | rfl | rfl
      · exact Heap.lt_size e1
      · exact Heap.lt_size e2
      · exact Heap.lt_size e3
      · exact let ⟨o,e,_⟩:=e4.obj; Heap.lt_size e
      · exact let ⟨o,e,_⟩:=e5.obj; Heap.lt_size e
    rw [Zb (Nat.ne_of_lt lt)]
    exact (hf c hc').1
  done:=by
    intro X hP hw hK hc i pins s σ H E I hf ⟨e1,e2,⟨a,b,e3⟩,e4,e5⟩ hg
    subst hP hw hK
    obtain ⟨xs,ys,q1,q2,hk⟩:=hg
    obtain ⟨its1,v1,p1,_⟩:=yt I q1
    obtain ⟨its2,v2,p2,_⟩:=yt I q2
    have ZZ:=Z m h1 h2
    have n1:a1≠i1:=Nat.ne_of_lt (Nat.lt_of_lt_of_le (h1 a1 (by simp)) (h2 i1 (by simp)))
    have n2:a2≠i2:=Nat.ne_of_lt (Nat.lt_of_lt_of_le (h1 a2 (by simp)) (h2 i2 (by simp)))
    have D1:=yT (prog:=X.prog) (w:=X.w) (Ym (I.ok.hd hc)) b1 i1 a1 n1 its1.toArray
    have D2:=yT (prog:=X.prog) (w:=X.w) (Ym (I.ok.hd hc)) b2 i2 a2 n2 its2.toArray
    have hl1:=v1.length
    have hl2:=v2.length
    refine Yai ZZ D1 D2 e1 e2 e3 ⟨e4,p1⟩ ⟨e5,p2⟩ (by simp; omega) fun g tk k=>⟨rfl,?_⟩
    exact ZA (ch:=[z,TI,TO,i1,i2]) I hf fun c o hc' e=>by
      simp only [List.mem_cons,List.not_mem_nil,or_false,not_or] at hc'
      exact k c o hc'.1 hc'.2.2.1 hc'.2.2.2.1 hc'.2.2.2.2 e
  self:=fun _ _ _ _ _ st h=>wpAny_pyIter_zip st.1 h
end
section
variable {X:Cx}
theorem Za2 {tg:Expr} {J:It} {fp:List Addr} {it:Addr} {tn:Nat→Heap→Prop} (hc:X.calm=true) (T:Turn X.prog X.w X.K tg J fp it tn):qbQ X tg J fp it tn :=
  fun Y e1 e2 e3 e4 e5 i pins s σ H E I f t g=>by
    have q:=T.item Y e1 e2 e3 (e4.trans hc) i pins s σ H E I f t g
    rw [e5] at q
    exact q
theorem Za5 {tg:Expr} {J:It} {fp:List Addr} {it:Addr} {tn:Nat→Heap→Prop} (hc:X.calm=true) (T:Turn X.prog X.w X.K tg J fp it tn):ZbQ X J fp it tn :=
  fun Y e1 e2 e3 e4 e5 _ i pins s σ H E I f t g=>by
    have q:=T.done Y e1 e2 e3 (e4.trans hc) i pins s σ H E I f t g
    rw [e5] at q
    exact q
variable {elt iter tg:Expr} {ifs:List Expr} {cs:Scope} {pos:Pos} {wi:TI} {g:TG} {tc:TT} {te:TE}
theorem zbF (N':List Str) (ncv:Nat) (js:List Nat) (hok:qw X.env.scope X.N cs N' ncv js=true) (hc:X.calm=true) (hi:PI X tg iter wi) (hg:∀ C s3 H ex,PG (cxC X cs N' C s3 H ex) tg g) (hif:∀ C s3 H ex,PIf (cxC X cs N' C s3 H ex) ifs tc)
    (helt:∀ C s3 H ex,PE (cxC X cs N' C s3 H ex) elt te) (hs:∀ x,foldedSetIterable iter X.env x=pure x:=by intro _; rfl):PE X (.ListComp elt [⟨tg,iter,ifs,0⟩] cs pos) (qbr wi ncv js g tc te):=by
  intro pins s σ H Q I h
  have ok:=CompOk.of hok
  rw [eval_ListComp]
  refine wpAny_comprehension_free (use:=none) rfl hs (yaf fun y hy e=>I.ok.has y.1 (ok.free y hy e)) ok.kind ok.locs (thn (hi pins s σ H _ I h) fun v s1 h1=>thn h1 fun itv s2 h2=>?_)
  obtain ⟨it,fp,tn,J,H2,e,I2,T,st2,f2,W,w0,turn⟩:=h2
  subst e
  refine zaf (Q:=Q) (RR:=fun acc C=>compPost (model X.prog X.w) X.A X.xe none (EP X pins σ Q) acc C) ok hg hif helt I2 T.mem T.obj T.keep (Za2 hc T) (Za5 hc T) T.self st2 f2 W w0 turn fun D C acc H' s6 IX fC zC hm q=>?_
  obtain ⟨m,hm⟩:=hm
  refine ⟨m,hm,fun h' sb=>⟨.ref D,_,?_,rfl,q⟩⟩
  exact ZA (t':=s6.toks) (ch:=[C]) IX (fun b hb=>by obtain rfl:=List.mem_singleton.mp hb; exact fC) fun b o hb e=>(sb.2 b fun z=>hb (by simp [z])).trans e
theorem Qbz {i:Nat} {x:Str} {pos' spos:Pos} (hN:X.N.Nodup) (hi0:X.N[i]?=some x) (hx:Loc X.env.scope x) (N':List Str) (ncv:Nat) (js:List Nat) (hok:qw X.env.scope X.N cs N' ncv js=true) (hc:X.calm=true) (hi:PI X tg iter wi)
    (hg:∀ C s3 H ex,PG (cxC X cs N' C s3 H ex) tg g) (hif:∀ C s3 H ex,PIf (cxC X cs N' C s3 H ex) ifs tc) (helt:∀ C s3 H ex,PE (cxC X cs N' C s3 H ex) elt te)
    (hsw:swapsWith (.ListComp elt [⟨tg,iter,ifs,0⟩] cs pos) (some (.Name x pos')) spos.line X.env=pure true:=by rfl) (hs:∀ x,foldedSetIterable iter X.env x=pure x:=by intro _; rfl)
    (hf:X.fn x=true∨X.env.scope.names.lookup x=some .local:=by first | exact .inl rfl | exact .inr rfl | assumption) :
    PS X (.Assign [.Name x pos'] (.ListComp elt [⟨tg,iter,ifs,0⟩] cs pos) spos) (tAsg (qbr wi ncv js g tc te) (Zbw i)):=by
  intro pins s σ H D0 I h
  have ok:=CompOk.of hok
  rw [exec_Assign_Name_used _ _ _ _ hsw]
  refine wpAny_bind (wpAny_standAt (wpAny_bind ?_))
  show wpAny _ X.A (do let _←comprehension (.ListComp elt [⟨tg,iter,ifs,0⟩] cs pos) cs X.env _ (newList []) false (eval iter X.env) (some (assign (.Name x pos') X.env))) _ _ s
  refine wpAny_bind (wpAny_mono (wpAny_comprehension_free (use:=some (assign (.Name x pos') X.env)) (Q:=fun _ s'=>SP X pins D0 .next s') rfl hs (yaf fun y hy e=>I.ok.has y.1 (ok.free y hy e)) ok.kind ok.locs (thn (hi pins s σ H _ I h) fun v s1 h1=>thn h1 fun itv s2 h2=>?_))
    (fun _ s' hq=>wpAny_pure (wpAny_pure hq)) fun _ _ e=>e)
  obtain ⟨it,fp,tn,J,H2,e,I2,T,st2,f2,W,w0,turn⟩:=h2
  subst e
  refine zaf (Q:=fun v H'=>Zbw i v σ H' D0.nx) (RR:=fun acc C=>compPost (model X.prog X.w) X.A X.xe (some (assign (.Name x pos') X.env)) (fun _ s'=>SP X pins D0 .next s') acc C) ok hg hif helt I2 T.mem T.obj T.keep (Za2 hc T) (Za5 hc T) T.self st2 f2 W w0 turn fun D C acc H' s6 IX fC zC hm q=>?_
  obtain ⟨m,hm⟩:=hm
  obtain ⟨oC,esC,epC,gC,dC,rC⟩:=id hm
  have nc:∀ v,oC.data≠.cell v:=fun v z=>by rw [dC] at z; cases z
  have IXp:=IX.pinned (fp:=[C]) (fun b hb=>by obtain rfl:=List.mem_singleton.mp hb; exact fC) (fun b hb=>by obtain rfl:=List.mem_singleton.mp hb; exact ⟨oC,gC,nc⟩)
  show wpAny (model X.prog X.w) X.A (assign (.Name x pos') X.env (.ref D)) _ X.xe s6
  refine thn (ya3 hN hi0 hx hf _ s6 σ _ (.ref D) (.ref D) _ IXp rfl q) fun _ s7 ⟨σ7,H7,I7,q7⟩=>?_
  obtain ⟨g7,d7⟩:=zk I7 (List.mem_append_right _ (zp (List.mem_singleton.mpr rfl) gC))
  refine ⟨m,⟨oC,esC,epC,g7,dC,rC⟩,fun h' sb=>⟨σ7,H7,?_,q7⟩⟩
  obtain ⟨_,c1,c2,c3,c4,c5⟩:=fC
  exact ZA (t':=s7.toks) (ch:=[C]) I7.unpinned (fun b hb=>by obtain rfl:=List.mem_singleton.mp hb; exact ⟨d7,c1,c2,c3,c4,c5⟩) fun b o hb e=>(sb.2 b fun z=>hb (by simp [z])).trans e
theorem zv {a b:Nat} (h:a < b∨b < a):a≠b:=by omega
theorem Yau {a b c:Nat} (h1:a≠b) (h2:a≠c):(a:Addr)∉([b,c]:List Addr):=by
  simp only [List.mem_cons,List.not_mem_nil,or_false,not_or]
  exact ⟨h1,h2⟩
theorem ybK (n a1 a2:Nat) (h1:a1 < n) (h2:a2 < n):ZAp (n + 4) (n + 2) (n + 3) n (n + 1) [n,a1] [n + 1,a2] where
  tiz:=zv (a:=n + 2) (b:=n + 4) (by omega)
  toz:=zv (a:=n + 3) (b:=n + 4) (by omega)
  tito:=zv (a:=n + 2) (b:=n + 3) (by omega)
  ti1:=zv (a:=n + 2) (b:=n) (by omega)
  ti2:=zv (a:=n + 2) (b:=n + 1) (by omega)
  z1:=Yau (zv (by omega)) (zv (by omega))
  z2:=Yau (zv (by omega)) (zv (by omega))
  t1:=Yau (zv (by omega)) (zv (by omega))
  t2:=Yau (zv (by omega)) (zv (by omega))
  m1:=by simp
  m2:=by simp
  a1:=Yau (zv (by omega)) (zv (by omega))
  a2:=Yau (zv (by omega)) (zv (by omega))
theorem ge5 {n b:Nat} (h:(b:Addr)∈([n + 4,n + 2,n + 3,n,n + 1]:List Addr)):n≤b:=by
  simp only [List.mem_cons,List.not_mem_nil,or_false] at h
  rcases h with h | h | h | h | h <;> (have h':b=_:=h; rw [h']; first | exact Nat.le_add_right _ _ | exact Nat.le_refl _)
noncomputable def iZip (K:PySem.W.Frag) (ta:TA):TI:=fun σ H R=>ta σ H fun vs H1=>∃ b1 b2 a1 a2,vs=[.ref a1,.ref a2]∧(∃ xs,SqS K H1 b1 a1 xs)∧(∃ ys,SqS K H1 b2 a2 ys)∧R (Itz K b1 b2 a1 a2) H1
theorem zb4 {a b:Expr} {ta:TA} {p pos:Pos} {es:List Expr} {kt:Nat} {pt:Pos} (hg:Gl X "zip") (hm:X.mg "zip"=none) (ha:PA X [a,b] ta) (hs:starEach [a,b] X.env=[(false,eval a X.env),(false,eval b X.env)]:=by rfl) (hs2:starEach [b] X.env=[(false,eval b X.env)]:=by rfl) :
    PI X (.Tuple es kt pt) (.Call (.Name "zip" p) [a,b] [] pos) (iZip X.K ta):=by
  intro pins s σ H R I h
  refine Call_ (Q2 I hg hm boot_zip (PyProof.Rows.callWith_type1 (thn (ha pos pins s σ H _ I h) fun us s1 ⟨vs,H1,I1,r1,q1⟩=>?_) (by rw [hs,hs2]) (by rw [hs2]; rfl)))
  obtain ⟨b1,b2,a1,a2,e,⟨xs,h1⟩,⟨ys,h2⟩,q⟩:=q1
  subst e
  cases r1 with
  | cons r rr =>
    cases rr with
    | cons r' rr =>
      cases rr
      obtain rfl:_=Value.ref a1:=r
      obtain rfl:_=Value.ref a2:=r'
      obtain ⟨its1,v1,p1,_⟩:=yt I1 h1
      obtain ⟨its2,v2,p2,_⟩:=yt I1 h2
      have l1:=p1.lt
      have l2:=p2.lt
      refine zbv p1 p2 fun g f1 f2 f3 f4 f5 f6=>?_
      refine wpAny_pyIter_zip f1 ?_
      refine ⟨s1.heap.objs.size + 4,[s1.heap.objs.size + 4,s1.heap.objs.size + 2,s1.heap.objs.size + 3,s1.heap.objs.size,s1.heap.objs.size + 1],_,_,H1,rfl,I1.kept (t':=s1.toks) f6,qbw (b1:=b1) (b2:=b2) (a1:=a1) (a2:=a2) (fun _ _ _=>ybK _ a1 a2 l1 l2) s1.heap.objs.size (fun a ha'=>?_) (fun a ha'=>ge5 ha'),⟨f1,f2,⟨_,_,f3⟩,f4,f5⟩,fun b hb=>I1.fpOk (ge5 hb) (I1.hok.fresh (ge5 hb)),q⟩
      simp only [List.mem_cons,List.not_mem_nil,or_false] at ha'
      rcases ha' with rfl | rfl <;> assumption
end
noncomputable def CX1 (P:Program) (w:World):CXT:=fun outer H s E e s'=>∃ x C t tb H',e=.ref x∧s'.os=s.os∧AllBare s'.gens∧Un (frs outer) [] H H' s.heap s'.heap∧HOk P w H' s'.heap∧s'.heap.get? x=some (zaC C t tb)∧Tb s'.heap x tb ∧
  H' x=none∧s.heap.get? x=none∧(∀ T,tb=.ref T→H' T=none∧s.heap.get? T=none)∧E (.ref C) none H'
structure ExOk (X:Cx) (pins:List (Addr×Obj)) (H:Hp) (b:Addr):Prop where
  un:H b=none
  loc:b≠X.env.locals
  fs:b∉X.fs
  new:X.s₀.heap.get? b=none
  cell:∀ x c,X.env.cells.lookup x=some c→c≠b
  pin:∀ p∈X.pn++pins,p.1≠b
noncomputable def Qa5 (X:Cx) (E:XK):Prop:=∀ (pins:List (Addr×Obj)) (σ:L2.St) (H:Hp) (s:Shared) (x C t:Addr) (tb:Value),Inv X pins σ H s→s.heap.get? x=some (zaC C t tb)→Tb s.heap x tb→ExOk X pins H x→(∀ T,tb=.ref T→ExOk X pins H T)→E (.ref C) none H→X.xe (.ref x) s
section
variable {X:Cx} {pins:List (Addr×Obj)} {σ:L2.St} {H H':Hp} {s:Shared}
theorem Yal {b:Addr} (I:Inv X pins σ H s) (hx:X.ex=[]) (hb:s.heap.get? b=none) (hn:H' b=none):ExOk X pins H' b:=by
  have al:∀ {c o},s.heap.get? c=some o→c≠b:=fun {c o} e z=>by rw [z,hb] at e; cases e
  refine ⟨hn,fun z=>?_,fun z=>?_,?_,fun x c e=>?_,fun p hp=>al (I.pin p hp).1⟩
  · obtain ⟨m,⟨o,_,_,e,_⟩,_⟩:=I.loc
    exact al e z.symm
  · obtain ⟨_,o,e,_⟩:=I.funs.mem z
    exact al e rfl
  · cases q:X.s₀.heap.get? b with
    | none=>rfl
    | some o =>
      obtain ⟨o',e⟩:=I.base.there b o q (by rw [hx]; exact fun z=>nomatch z)
      exact absurd rfl (al e)
  · obtain ⟨v,o,e,_⟩:=I.cell x c e
    exact al e
theorem Zbg {E:XK} (hx:X.ex=[]) (T:Qa5 X E):qbX (CX1 X.prog X.w) X E:=by
  intro pins σ H s e s' I h
  obtain ⟨x,C,t,tb,H',rfl,os,bare,un,hok,e1,e2,e3,e4,e5,q⟩:=h
  have I':Inv X pins σ H' s':=I.call' (ch:=[]) os un hok bare fun b z=>nomatch z
  exact T pins σ H' s' x C t tb I' e1 e2 (Yal I hx e4 e3) (fun T' z=>Yal I hx (e5 T' z).2 (e5 T' z).1) q
theorem Zbf {P:Program} {w:World} {h h':Heap} {fs:List Addr} {x:Addr} {tb:Value} (ok:HOk P w H h) (n:Noted fs x tb h h') (hf:∀ b∈fs,H b=none) (hx:H x=none) (ht:∀ T,tb=.ref T→H T=none):HOk P w H h':=fun b u e=>by
  have go:∀ c v,H c≠none→h.get? c=some v→h'.get? c=some v:=fun c v hc q=>n.keep c v (fun z=>hc (hf c z)) (fun z=>hc (z ▸ hx)) (fun z=>hc (ht c z.symm)) q
  refine (ok b u e).stay (fun c v hc q=>go c v ?_ q) (fun _ q=>q) fun _ _ q=>q
  rcases hc with z | z
  · rw [z,e]; exact fun z=>nomatch z
  · rw [z]; exact fun z=>nomatch z
theorem Qab {h h':Heap} {fs:List Addr} {x:Addr} {tb:Value} {b:Addr} {o:Obj} (n:Noted fs x tb h h') (h1:b≠x) (h2:Value.ref b≠tb) (e:h.get? b=some o):∃ sl,h'.get? b=some {o with slots:=sl}:=by
  by_cases z:b∈fs
  · exact n.slot b o z h1 h2 e
  · exact ⟨o.slots,n.keep b o z h1 h2 e⟩
theorem zbn {fs fs' ex:List Addr} {H0:Hp} {h0 h h':Heap} {x:Addr} {tb:Value} (u:Un fs ex H0 H h0 h) (n:Noted fs' x tb h h') (hx:h0.get? x=none) (ht:∀ T,tb=.ref T→h0.get? T=none) (hs:∀ b o,h0.get? b=some o→b∉fs→b∉fs'):Un fs ex H0 H h0 h':=by
  have ne:∀ b o,h0.get? b=some o→b≠x∧Value.ref b≠tb:=fun b o e=>⟨fun z=>(by rw [z,hx] at e; cases e),fun z=>(by rw [ht b z.symm] at e; cases e)⟩
  refine ⟨fun b o e q hb hx'=>n.keep b o (hs b o e hb) (ne b o e).1 (ne b o e).2 (u.keep b o e q hb hx'),fun b o e q hb hx'=>?_,u.free,fun b o e hx'=>?_,u.tups,u.frzs,u.tbls⟩
  · obtain ⟨sl,z⟩:=u.slot b o e q hb hx'
    obtain ⟨sl',z'⟩:=Qab n (ne b o e).1 (ne b o e).2 z
    exact ⟨sl',z'⟩
  · obtain ⟨o',z⟩:=u.there b o e hx'
    obtain ⟨sl',z'⟩:=Qab n (ne b o e).1 (ne b o e).2 z
    exact ⟨_,z'⟩
theorem Qbe (I:Inv X pins σ H s) {b:Addr} {o:Obj} (e:X.s₀.heap.get? b=some o) (hb:b∉X.fs):b∉frs X.stack:=fun z=>by
  rcases List.mem_cons.mp (I.stkSub b z) with y | y
  · exact absurd (Nat.lt_of_lt_of_le (Heap.lt_size e) I.ok.above) (by rw [y]; exact Nat.lt_irrefl _)
  · exact hb y
end
theorem Zas {P:Program} {w:World} {K:PySem.W.Frag} {mg:Str→Option Value} {base:Heap} {N:List Str} {qual:Str} {scope:Scope} {f:Addr} {cd:Value} {A:Around} {outer:List Env} {s0:Shared} {H0:Hp} {E:XK} :
    Qa5 (Y9 (CX1 P w) P w K mg base N qual scope f cd A outer s0 H0 E) E:=by
  intro pins σ H s x C t tb I e1 e2 fx ft q
  refine zba (env:=envOfC qual scope s0.heap.objs.size f cd) (outer:=outer) (L:=s0.heap.objs.size) I.ok.frames I.stack rfl e1 e2 fun h' T n g1 g2 g3=>?_
  refine ⟨x,C,t,.ref T,H,rfl,I.os,I.bare,zbn I.base n fx.new (fun T z=>(ft T z).new) fun b o e hb=>Qbe I e hb,Zbf I.hok n I.stkFree fx.un fun T z=>(ft T z).un,g1,g2,fx.un,fx.new,fun T' z=>?_,q⟩
  cases z
  exact ⟨I.hok.fresh g3,Heap.get?_none_of_le (Nat.le_trans I.sz g3)⟩
theorem QbF {P:Program} {w:World} {K:PySem.W.Frag} {mg:Str→Option Value} {base:Heap} {N:List Str} {qual:Str} {scope:Scope} {f:Addr} {cd:Value} {A:Around} {outer:List Env} {s0:Shared} {H0:Hp} {E:XK} {CX:CXT} :
    PassesOwn (model P w) (Y9 CX P w K mg base N qual scope f cd A outer s0 H0 E).A (Y9 CX P w K mg base N qual scope f cd A outer s0 H0 E).env (Y9 CX P w K mg base N qual scope f cd A outer s0 H0 E).xe:=PassesOwn.leaving
abbrev bmV:List Value:=[.type "ValueError",.type "Exception",.type "BaseException",.type "object"]
noncomputable def qT (K:PySem.W.Frag) (C:Addr):Prop:=PySem.W.excIn K C bmV "ValueError.__new__"=true
noncomputable def qU (K:PySem.W.Frag) (C:Addr):List Value:=match K.lookup C with
  | some ⟨_,_,.cls cd,_⟩=>cd.mro.tail
  | _=>[]
theorem QbC {K:PySem.W.Frag} {h:Heap} {C:Addr} (KX:K.In h) (q:qT K C) :
    ∃ N nm qn bs hdct sn sub ab col dd k0 k1 k2 k3 k5 mN,h.get? C=some (excClassObj nm qn C N bs (qU K C) hdct sn sub ab col dd k0 k1 k2 k3 k5 "ValueError.__new__")∧h.Ns N mN∧mN "__init__"=none∧OwnTail h bmV (qU K C):=by
  unfold qT PySem.W.excIn at q
  split at q
  next dd cd sl ho =>
    split at q
    next C' bm k0 k1 k2 k3 n k5 hm hs =>
      simp only [Bool.and_eq_true,beq_iff_eq,Bool.not_eq_true'] at q
      obtain ⟨⟨⟨⟨⟨q1,q2⟩,q3⟩,q4⟩,q5⟩,q6⟩:=q
      subst q1 q2
      have emro:qU K C'=bm:=by unfold qU; rw [ho]; dsimp only; rw [hm]; rfl
      cases cd with
      | mk nm bs mro ns qn hd sn sub ab col del =>
        dsimp only at hm q3 q5 q6
        subst hm q3
        obtain ⟨l⟩:=sl
        dsimp only at hs
        subst hs
        rw [emro]
        exact ⟨ns,nm,qn,bs,hd,sn,sub,ab,col,dd,k0,k1,k2,k3,k5,_,KX _ _ ho,.of_isNs (PySem.W.isNs_of_in KX q5),PySem.W.nsMap_none_of_in KX q5 q6,PySem.W.tail_of_in KX q4⟩
    next=>cases q
  next=>cases q
section
variable {X:Cx} {e:Expr} {es:List Expr} {ta:TA} {c:Str} {np cpos pos:Pos} {C:Addr} {E:XK}
noncomputable def qbY (C:Addr) (E:XK) (ta:TA):TS:=fun _ σ H=>ta σ H fun vs H1=>vs.length≤sizeLine∧E (.ref C) none H1
theorem Zbp (hc:X.calm=true) (hx:X.ex=[]) (T:Qa5 X E) (q:qT X.K C) (hg:Gl X c) (hm:X.mg c=some (.ref C)) (ha:PA X (e::es) ta) (hd:(c == ("__debug__":Str))=false:=by decide)
    (he:starEach (e::es) X.env=(false,eval e X.env)::starEach es X.env:=by rfl) (hpl:(backTo cpos (starEach es X.env)).any (·.1)=false:=by rfl) :
    PS X (.Raise (some (.Call (.Name c np) (e::es) [] cpos)) none pos) (qbY C E ta):=by
  intro pins s σ H D I h
  obtain ⟨N,nm,qn,bs,hdct,sn,sub,ab,col,dd,k0,k1,k2,k3,k5,mN,oC,oN,ni,TL⟩:=QbC I.ok.mod.kin q
  refine wpAny_Raise_call_subT (C:=C) (nm:=nm) (q:=qn) (N:=N) (bs:=bs) (bm:=qU X.K C) (hdct:=hdct) (sn:=sn) (sub:=sub) (ab:=ab) (col:=col) (dd:=dd) (k0:=k0) (k1:=k1) (k2:=k2) (k3:=k3) (k5:=k5) (mN:=mN)
    PySem.F.excBase_ValueError (TL.hasType (by decide)) (I.ok.hd hc) (by rw [he]; show (false || (backTo cpos (starEach es X.env)).any (·.1))=false; rw [hpl]; rfl) ni (ZT I hg hm ⟨rfl,?_⟩ hd)
  have hw:=ha cpos pins s σ H _ I h
  rw [he] at hw ⊢
  refine Calls.evalArgs_plain (wpAny_mono hw (fun us s2 ⟨vs,H2,I2,r,z,q2⟩=>?_) fun _ _ y=>y)
  refine ⟨rfl,by rw [← r.length]; exact z,I2.bk _ _ oC,oN.keeps I2.bk,TL.keeps I2.bk,fun h' x hm'=>?_⟩
  obtain ⟨t,e1,e2,e3⟩:=hm'.there
  have I3:Inv X pins σ H2 {s2 with heap:=h'}:=I2.kept (t':=s2.toks) hm'.keeps
  have nx:H2 x=none:=by
    cases z:H2 x with
    | none=>rfl
    | some o =>
      obtain ⟨o',e'⟩:∃ o',s2.heap.get? x=some o':=by
        have lt:=I2.hok x o z
        cases q0:s2.heap.get? x with
        | some o'=>exact ⟨o',rfl⟩
        | none =>
          exfalso
          have z0:=lt
          cases o with
          | lst xs=>obtain ⟨_,_,_,_,e0⟩:=z0; rw [q0] at e0; cases e0
          | tup xs=>obtain ⟨_,_,_,ob,e0,_⟩:=z0; rw [q0] at e0; cases e0
          | dK kvs=>obtain ⟨_,_,_,_,ob,_,_,e0,_⟩:=z0; rw [q0] at e0; cases e0
          | dT kvs=>obtain ⟨_,_,_,_,ob,_,_,e0,_⟩:=z0; rw [q0] at e0; cases e0
          | set S n=>obtain ⟨ob,_,_,_,e0,_⟩:=z0; rw [q0] at e0; cases e0
          | ins C dx fs=>obtain ⟨_,_,_,e0,_⟩:=z0; rw [q0] at e0; cases e0
          | own y=>obtain ⟨_,e0⟩:=z0; rw [q0] at e0; cases e0
          | xd fs=>obtain ⟨_,⟨_,_,_,e0,_⟩,_⟩:=z0; rw [q0] at e0; cases e0
          | rng lo hi=>obtain ⟨_,_,_,e0⟩:=z0; rw [q0] at e0; cases e0
          | frz ob u=>obtain ⟨e0,_⟩:=z0; rw [q0] at e0; cases e0
          | tbl ps=>have e0:s2.heap.get? x=some _:=z0; rw [q0] at e0; cases e0
          | met f y=>have e0:s2.heap.get? x=some _:=z0; rw [q0] at e0; cases e0
          | ext φ=>obtain ⟨_,⟨_,e0⟩,_⟩:=z0; rw [q0] at e0; cases e0
      rw [hm'.new] at e'; cases e'
  exact T pins σ H2 _ x C t .none I3 e1 .no (Yal I2 hx hm'.new nx) (fun T z=>nomatch z) q2
end
structure ExcK (K:PySem.W.Frag) (C:Addr):Prop where
  q:qT K C
  ga:PySem.W.findIn K (.ref C) "__getattribute__"=some (some (.builtin "BaseException.__getattribute__"))
  gt:PySem.W.findIn K (.ref C) "__getattr__"=some none
  cl:PySem.W.findIn K (.ref C) "__class__"=some (some (.builtin "object.__class__"))
  gn:PySem.W.specialIn K (.builtin "object.__class__") "__get__"=some (some (.builtin "getset_descriptor.__get__"))
  tk:PySem.W.takesIn K (.builtin "object.__class__")=some true
  mo:PySem.W.mroIn K C (.type "object")=some true
  ci:(PySem.W.clsIn K C).isSome=true
section
variable {X:Cx} {pins pl:List (Addr×Obj)} {σ σ0:L2.St} {H:Hp} {s:Shared} {E:XK}
noncomputable def Yz (CX:CXT) (X:Cx) (σ:L2.St) (E:XK):Prop:=∀ (pins:List (Addr×Obj)) (H:Hp) (s:Shared) (e:Value) (s':Shared),Inv X pins σ H s→CX X.stack H s E e s'→X.xe e s'
end
section
variable {X:Cx} {CX:CXT} {k:Nat} {f C:Addr} {fd:FuncData} {ps:List Str} {sp:Sp} {dvs:List V} {ds:List Value} {E:XK} {x m:Str} {p pos apos:Pos} {e o:Expr} {es:List Expr} {ta:TE} {t:TA} {σ0:L2.St}
theorem ZbK {pins:List (Addr×Obj)} {H:Hp} {s:Shared} {Q:VK} {us:List Value} {vs:List V} (F:FnOk X.prog X.w X.K X.mg X.base CX k f fd ps sp) (hr:Room k X.A) (hb:Binds X.K fd ps ds) (hd:Vals dvs ds) (hx:Yz CX X σ0 E)
    (I:Inv X pins σ0 H s) (r:Vals vs us) (h:sp (vs++dvs) H Q E):wpAny (model X.prog X.w) X.A (call (.ref f) us) (EP X pins σ0 Q) X.xe s:=by
  have r2:Vals (vs++dvs) (us++ds):=r.append hd
  have hl:(us++ds).length=ps.length:=by rw [← r2.length]; exact F.len _ _ _ _ h
  refine wpAny_call (codeAny_mono (F.run X.A X.stack s H ⟨us,[]⟩ (us++ds) (vs++dvs) Q E hr I.env0 (hb s us I.kIn hl) r2 h) fun r s' hq=>?_)
  cases r with
  | error e=>exact hx pins H s e s' I hq
  | ok fl =>
    cases fl with
    | ret u=>exact I.after hq
    | next=>exact False.elim hq
    | brk=>exact False.elim hq
    | cont=>exact False.elim hq
noncomputable def ybm (σ0:L2.St) (sp:Sp) (dvs:List V) (E:XK) (t:TA):TE:=fun σ H Q=>σ=σ0∧t σ H fun vs H1=>sp (vs++dvs) H1 Q E
theorem zbj (F:FnOk X.prog X.w X.K X.mg X.base CX k f fd ps sp) (hr:Room k X.A) (hg:Gl X x) (hm:X.mg x=some (.ref f)) (hk:PySem.W.keepIn X.K (.ref f)=true) (hb:Binds X.K fd ps ds) (hd:Vals dvs ds) (hx:Yz CX X σ0 E)
    (ha:PA X (e::es) t) (hdb:(x == ("__debug__":Str))=false:=by decide) (he:starEach (e::es) X.env=(false,eval e X.env)::starEach es X.env:=by rfl) (hpl:(backTo pos (starEach es X.env)).any (·.1)=false:=by rfl) :
    PE X (.Call (.Name x p) (e::es) [] pos) (ybm σ0 sp dvs E t):=by
  intro pins s σ H Q I h
  obtain ⟨rfl,h⟩:=h
  refine wpAny_Call_Name_kw (ZT I hg hm ?_ hdb)
  refine PySem.W.callWith_K (h₀:=X.base) I.ok.mod.kin hk (thn (ha pos pins s σ H _ I h) fun us s1 ⟨vs,H1,I1,r,q⟩=>⟨I1.kIn,?_⟩) he hpl
  exact ZbK F hr hb hd hx I1 r q
theorem Ybf {pins:List (Addr×Obj)} {H:Hp} {s:Shared} {Q:VK} {us:List Value} {vs:List V} (M:Mk X.K C f) (F:FnOk X.prog X.w X.K X.mg X.base CX k f fd ps sp) (hr:Room (k + 1) X.A) (hb:Binds X.K fd ps ds) (hd:Vals dvs ds)
    (hx:Yz CX X σ0 E) (I:Inv X pins σ0 H s) (r:Vals vs us)
    (h:∀ x dx,H x=none→H dx=none→dx≠x→sp (.ref x::(vs++dvs)) (upd (upd H dx (.own x)) x (.ins C dx [])) (fun v H2=>v=.non∧Q (.ref x) H2) E) :
    wpAny (model X.prog X.w) X.A (call (.ref C) us) (EP X pins σ0 Q) X.xe s:=by
  have hq:=h (s.heap.objs.size + 1) s.heap.objs.size (I.hok.fresh (Nat.le_succ _)) (I.hok.fresh (Nat.le_refl _)) (Nat.ne_of_lt (Nat.lt_succ_self _))
  have I2:=Inv.made (C:=C) I
  have r2:Vals (V.ref (s.heap.objs.size + 1)::(vs++dvs)) (Value.ref (s.heap.objs.size + 1)::(us++ds)):=.cons rfl (r.append hd)
  have hl:(Value.ref (s.heap.objs.size + 1)::us++ds).length=ps.length:=by
    have e:=r2.length
    rw [F.len _ _ _ _ hq] at e
    exact e.symm
  refine wpAny_call (Zbj (f:=f) I.kIn M.makes M.init (beq_iff_eq.mp M.fn) (codeAny_mono (F.run _ X.stack _ _ ⟨Value.ref (s.heap.objs.size + 1)::us,[]⟩ (Value.ref (s.heap.objs.size + 1)::(us++ds)) _ _ E (hr.make C us [])
    (I2.env0.make C us []) (hb _ (Value.ref (s.heap.objs.size + 1)::us) I2.kIn hl) r2 hq) fun r s' hq'=>?_))
  cases r with
  | error e=>exact hx pins _ _ e s' I2 hq'
  | ok fl =>
    cases fl with
    | ret u =>
      obtain ⟨v,H',I3,rv,ev,q3⟩:=I2.after hq'
      subst ev
      exact ⟨rv,⟨V.ref (s.heap.objs.size + 1),H',I3,rfl,q3⟩⟩
    | next=>exact False.elim hq'
    | brk=>exact False.elim hq'
    | cont=>exact False.elim hq'
noncomputable def Zbx (σ0:L2.St) (C:Addr) (sp:Sp) (dvs:List V) (E:XK) (t:TA):TE:=fun σ H Q=>σ=σ0∧t σ H fun vs H1=>∀ x dx,H1 x=none→H1 dx=none→dx≠x →
  sp (.ref x::(vs++dvs)) (upd (upd H1 dx (.own x)) x (.ins C dx [])) (fun v H2=>v=.non∧Q (.ref x) H2) E
theorem Zbo (M:Mk X.K C f) (F:FnOk X.prog X.w X.K X.mg X.base CX k f fd ps sp) (hr:Room (k + 1) X.A) (hg:Gl X x) (hm:X.mg x=some (.ref C)) (hb:Binds X.K fd ps ds) (hd:Vals dvs ds) (hx:Yz CX X σ0 E)
    (ha:PA X (e::es) t) (hdb:(x == ("__debug__":Str))=false:=by decide) (he:starEach (e::es) X.env=(false,eval e X.env)::starEach es X.env:=by rfl) (hpl:(backTo pos (starEach es X.env)).any (·.1)=false:=by rfl) :
    PE X (.Call (.Name x p) (e::es) [] pos) (Zbx σ0 C sp dvs E t):=by
  intro pins s σ H Q I h
  obtain ⟨rfl,h⟩:=h
  refine wpAny_Call_Name_kw (ZT I hg hm ?_ hdb)
  refine PySem.W.callWith_K (h₀:=X.base) I.ok.mod.kin M.kp (thn (ha pos pins s σ H _ I h) fun us s1 ⟨vs,H1,I1,r,q⟩=>⟨I1.kIn,?_⟩) he hpl
  exact Ybf M F hr hb hd hx I1 r q
end
structure FunD (K:PySem.W.Frag) (x qual:Str) (st:Stmt) (f:Addr) (fd:FuncData):Prop where
  ex:∃ (oc:Value) (od:Option Addr) (dV kV doc pm:Value) (an:Option Addr) (cdv ct:Value) (osl:Array (Option Value)),
    fd=PySem.W.fnOf x qual (yj st) (Yg st) (yc st) dV kV doc pm an cdv ct∧K.lookup f=some ⟨oc,od,.func fd,osl⟩∧PySem.W.codeIn K cdv qual=true
  kp:PySem.W.keepIn K (.ref f)=true
theorem QbI {K:PySem.W.Frag} {x qual:Str} {st:Stmt} {f:Addr} {oc:Value} {od an:Option Addr} {osl:Array (Option Value)} {dV kV doc pm cdv ct:Value} (l:K.lookup f=some ⟨oc,od,.func (PySem.W.fnOf x qual (yj st) (Yg st) (yc st) dV kV doc pm an cdv ct),osl⟩)
    (c:PySem.W.codeIn K cdv qual=true) (k:PySem.W.keepIn K (.ref f)=true):FunD K x qual st f (PySem.W.fnOf x qual (yj st) (Yg st) (yc st) dV kV doc pm an cdv ct):=⟨⟨oc,od,dV,kV,doc,pm,an,cdv,ct,osl,rfl,l,c⟩,k⟩
structure RoomH (k:Nat) (A:Around) (x:Addr):Prop where
  hd:A.handled=some (.ref x)
  dp:A.depth + 3 * k + 5 < recursionLimit
  un:A.units + 16 * k + 200 < cLine
structure FnOkH (P:Program) (w:World) (K:PySem.W.Frag) (mg:Str→Option Value) (base:Heap) (k:Nat) (f:Addr) (fd:FuncData) (ps:List Str) (sp:Addr→Addr→Sp):Prop where
  len:∀ x C vs H Q E,sp x C vs H Q E→vs.length=ps.length
  run:∀ (x C t T:Addr) (A:Around) (outer:List Env) (s:Shared) (H:Hp) (args:Args) (us:List Value) (vs:List V) (Q:VK),RoomH k A x→Env0 P w K mg base A outer s H→s.heap.get? x=some (zaC C t (.ref T))→H x=none→BindsTo s fd args (ps.zip us)→Vals vs us→sp x C vs H Q E0 →
    codeAny (model P w) A (.call (.ref f) args) (CR CX0 outer P w H s Q E0) s
theorem QV {prog:Program} {w:World} {A:Around} (hh:A.handled=none) (b:Bool) (I ax:Addr) (hne:ax≠I) (items:Array Value) :
    Walks prog w A I [I,ax] [I] items.size (fun i v=>items[i]?=some v) (fun i h=>SeqIt h b I ax i∧SeqIs h b ax items):=by
  cases b with
  | false=>exact Walks.list hh I ax hne items
  | true =>
    exact { sub := fun b hb => by simp at hb; simp [hb]
            frame:=fun _ _ _ st hk=>⟨st.1.keeps fun o e=>hk I (by simp) o e,st.2.keeps fun o e=>hk ax (by simp) o e⟩
            item:=fun i s Q E hi st hQ=>by
              refine wpAny_pyNext_tuple_item (show s.heap.IsTupleIter I ax i from st.1) (show s.heap.IsTuple ax items from st.2) (x:=items[i]) (by simp [hi]) fun h' a sb=>?_
              exact hQ _ h' s.toks (by simp [hi]) ⟨a,st.2.keeps fun o e=>sb.extBut ax o hne e⟩ fun b o hb e=>sb.extBut b o (fun z=>hb (by simp [z])) e
            done:=fun s Q E st hQ=>wpAny_pyNext_tuple_end hh (show s.heap.IsTupleIter I ax items.size from st.1) (show s.heap.IsTuple ax items from st.2) (by simp) fun h' he=>hQ h' s.toks fun b o hb e=>he b o (fun z=>hb (by simp [z])) e
            self:=fun _ _ _ _ st hQ=>wpAny_pyIter_tupleiter (show Heap.IsTupleIter _ I ax _ from st.1) hQ}
theorem qy {ns:List Int} {us:List Value} (r:Vals (ns.map V.int) us) {i:Nat} {v:Value} (h:us.toArray[i]?=some v):∃ t,v=.int (ns.getD i 0) t:=by
  have h':us[i]?=some v:=by simpa using h
  have lt:i < us.length:=(List.getElem?_eq_some_iff.mp h').1
  have hl:=r.length
  rw [List.length_map] at hl
  obtain ⟨u,hu,ru⟩:=r.get (i:=i) (x:=.int (ns.getD i 0)) (by rw [List.getElem?_map,List.getElem?_eq_getElem (by omega),List.getD_eq_getElem?_getD,List.getElem?_eq_getElem (by omega)]; rfl)
  rw [hu] at h'
  cases h'
  exact ru
theorem Q4 (ns:List Int):∀ k,k≤ns.length→preSum (fun i=>ns.getD i 0) k=(ns.take k).sum
  | 0,_=>by simp [preSum]
  | k + 1,h=>by
    have e:ns.take (k + 1)=ns.take k++[ns.getD k 0]:=by
      rw [List.take_succ_eq_append_getElem (by omega),List.getD_eq_getElem?_getD,List.getElem?_eq_getElem (by omega)]; rfl
    show preSum (fun i=>ns.getD i 0) k + ns.getD k 0=_
    rw [Q4 ns k (by omega),e,List.sum_append,List.sum_cons,List.sum_nil,Int.add_zero]
theorem qax (val:Nat→Int) (bt:Nat→Nat→Bool) (hb:∀ i j,bt i j=decide (val i < val j)):∀ k,argBest bt k≤k∧∀ j,j≤k→val (argBest bt k)≤val j
  | 0 => ⟨Nat.le_refl _, fun j hj => by have : j = 0 := by omega
                                        subst this; exact Int.le_refl _⟩
  | k + 1=>by
    obtain ⟨h1,h2⟩:=qax val bt hb k
    show (if bt (k + 1) (argBest bt k) then k + 1 else argBest bt k)≤k + 1∧∀ j,j≤k + 1→val (if bt (k + 1) (argBest bt k) then k + 1 else argBest bt k)≤val j
    rw [hb]
    by_cases c:val (k + 1) < val (argBest bt k)
    · simp only [c,decide_true,if_true]
      refine ⟨Nat.le_refl _,fun j hj=>?_⟩
      by_cases e:j=k + 1
      · rw [e]; exact Int.le_refl _
      · have:=h2 j (by omega); omega
    · simp only [c,decide_false,Bool.false_eq_true,if_false]
      refine ⟨by omega,fun j hj=>?_⟩
      by_cases e:j=k + 1
      · rw [e]; omega
      · exact h2 j (by omega)
theorem ZbB (val:Nat→Int) (bt:Nat→Nat→Bool) (hb:∀ i j,bt i j=decide (val j < val i)):∀ k,argBest bt k≤k∧∀ j,j≤k→val j≤val (argBest bt k):=fun k=>by
  have h:=qax (fun i=>- val i) bt (fun i j=>by rw [hb]; congr 1; apply propext; constructor <;> intro h <;> omega) k
  exact ⟨h.1,fun j hj=>by have:=h.2 j hj; omega⟩
section
variable {X:Cx}
noncomputable def rSum (K:PySem.W.Frag):List V→Hp→VK→Prop:=fun xs H Q=>∃ (b:Bool) (a:Addr) (ns:List Int),xs=[.ref a]∧SqS K H b a (ns.map V.int)∧Q (.int ns.sum) H
noncomputable def rMin (K:PySem.W.Frag):List V→Hp→VK→Prop:=fun xs H Q=>∃ (b:Bool) (a:Addr) (ns:List Int),xs=[.ref a]∧SqS K H b a (ns.map V.int)∧ns≠[]∧∀ m,m∈ns→(∀ k∈ns,m≤k)→Q (.int m) H
noncomputable def rMax (K:PySem.W.Frag):List V→Hp→VK→Prop:=fun xs H Q=>∃ (b:Bool) (a:Addr) (ns:List Int),xs=[.ref a]∧SqS K H b a (ns.map V.int)∧ns≠[]∧∀ m,m∈ns→(∀ k∈ns,k≤m)→Q (.int m) H
theorem QW {a:Addr} {us:List Value} (r:Vals [V.ref a] us):us=[Value.ref a]:=by
  cases r with
  | cons r rr =>
    cases rr
    obtain rfl:_=Value.ref a:=r
    rfl
theorem Ybo {s:Shared} {a:Addr} (h:a < s.heap.objs.size) (o:Obj):∀ b∈[s.heap.objs.size,a],b < (s.heap.push o).objs.size:=fun b hb=>by
  rw [Heap.size_push]
  simp only [List.mem_cons,List.not_mem_nil,or_false] at hb
  rcases hb with e | e
  · rw [e]; exact Nat.lt_succ_self _
  · rw [e]; exact Nat.lt_succ_of_lt h
theorem Ybi (hc:X.calm=true):CallR X (.builtin "sum") (rSum X.K):=by
  intro pins s σ H xs us Q I r h
  obtain ⟨b,a,ns,rfl,hq,q⟩:=h
  obtain rfl:=QW r
  obtain ⟨its,v,p,_⟩:=yt I hq
  have lt:=p.lt
  refine call_sum_walkG (Ys p ⟨s.heap.objs.size,[s.heap.objs.size,a],[s.heap.objs.size],its.toArray.size,_,_,fun i=>ns.getD i 0,rfl,QV (Ym (I.ok.hd hc)) b _ a (Nat.ne_of_lt lt) its.toArray,⟨.new (Heap.get?_push_size _ rfl),p.keeps fun o e=>Heap.get?_push_of_some _ e⟩,Ybo lt _,fun i u hu=>qy v hu,fun h' tk t' k=>?_⟩)
  have hl:=v.length
  rw [List.length_map] at hl
  have e:preSum (fun i=>ns.getD i 0) its.toArray.size=ns.sum:=by rw [List.size_toArray,← hl,Q4 ns _ (Nat.le_refl _),List.take_length]
  rw [e]
  exact ⟨.int ns.sum,H,I.kept (t':=tk) (fun c o e=>k c o (fun z=>absurd (Heap.lt_size e) (by simp at z; rw [z]; exact Nat.lt_irrefl _)) (Heap.get?_push_of_some _ e)),⟨t',rfl⟩,q⟩
theorem yaP {ns:List Int} {i:Nat} (h:i < ns.length):ns.getD i 0∈ns:=by
  rw [List.getD_eq_getElem?_getD,List.getElem?_eq_getElem h]; exact List.getElem_mem _
theorem Q6 {ns:List Int} {k:Int} (h:k∈ns):∃ i,i < ns.length∧ns.getD i 0=k:=by
  obtain ⟨i,hi,e⟩:=List.getElem_of_mem h
  exact ⟨i,hi,by rw [List.getD_eq_getElem?_getD,List.getElem?_eq_getElem hi]; exact e⟩
theorem zbc (hc:X.calm=true):CallR X (.builtin "min") (rMin X.K):=by
  intro pins s σ H xs us Q I r h
  obtain ⟨b,a,ns,rfl,hq,ne,q⟩:=h
  obtain rfl:=QW r
  obtain ⟨its,v,p,_⟩:=yt I hq
  have lt:=p.lt
  have hl:=v.length
  rw [List.length_map] at hl
  have pos:0 < ns.length:=List.length_pos_iff.mpr ne
  refine call_min_walk (Ys p ⟨s.heap.objs.size,[s.heap.objs.size,a],[s.heap.objs.size],its.toArray.size,_,_,fun i j=>decide (ns.getD i 0 < ns.getD j 0),rfl,QV (Ym (I.ok.hd hc)) b _ a (Nat.ne_of_lt lt) its.toArray,⟨.new (Heap.get?_push_size _ rfl),p.keeps fun o e=>Heap.get?_push_of_some _ e⟩,Ybo lt _,by simp; omega,fun i j vi vj s' Q' E' hi hj hQ=>?_,fun u h' tk hu k=>?_⟩)
  · obtain ⟨t1,rfl⟩:=qy v hi
    obtain ⟨t2,rfl⟩:=qy v hj
    exact lt_int hQ
  obtain ⟨t,rfl⟩:=qy v hu
  obtain ⟨b1,b2⟩:=qax (fun i=>ns.getD i 0) _ (fun _ _=>rfl) (its.toArray.size - 1)
  rw [List.size_toArray] at b1 b2 ⊢
  refine ⟨.int _,H,I.kept (t':=tk) (fun c o e=>k c o (fun z=>absurd (Heap.lt_size e) (by simp at z; rw [z]; exact Nat.lt_irrefl _)) (Heap.get?_push_of_some _ e)),⟨t,rfl⟩,q _ (yaP (by omega)) fun m hm=>?_⟩
  obtain ⟨i,hi,e⟩:=Q6 hm
  rw [← e]
  exact b2 i (by omega)
theorem qbe (hc:X.calm=true):CallR X (.builtin "max") (rMax X.K):=by
  intro pins s σ H xs us Q I r h
  obtain ⟨b,a,ns,rfl,hq,ne,q⟩:=h
  obtain rfl:=QW r
  obtain ⟨its,v,p,_⟩:=yt I hq
  have lt:=p.lt
  have hl:=v.length
  rw [List.length_map] at hl
  have pos:0 < ns.length:=List.length_pos_iff.mpr ne
  refine call_max_walk (Ys p ⟨s.heap.objs.size,[s.heap.objs.size,a],[s.heap.objs.size],its.toArray.size,_,_,fun i j=>decide (ns.getD j 0 < ns.getD i 0),rfl,QV (Ym (I.ok.hd hc)) b _ a (Nat.ne_of_lt lt) its.toArray,⟨.new (Heap.get?_push_size _ rfl),p.keeps fun o e=>Heap.get?_push_of_some _ e⟩,Ybo lt _,by simp; omega,fun i j vi vj s' Q' E' hi hj hQ=>?_,fun u h' tk hu k=>?_⟩)
  · obtain ⟨t1,rfl⟩:=qy v hi
    obtain ⟨t2,rfl⟩:=qy v hj
    exact gt_int hQ
  obtain ⟨t,rfl⟩:=qy v hu
  obtain ⟨b1,b2⟩:=ZbB (fun i=>ns.getD i 0) _ (fun _ _=>rfl) (its.toArray.size - 1)
  rw [List.size_toArray] at b1 b2 ⊢
  refine ⟨.int _,H,I.kept (t':=tk) (fun c o e=>k c o (fun z=>absurd (Heap.lt_size e) (by simp at z; rw [z]; exact Nat.lt_irrefl _)) (Heap.get?_push_of_some _ e)),⟨t,rfl⟩,q _ (yaP (by omega)) fun m hm=>?_⟩
  obtain ⟨i,hi,e⟩:=Q6 hm
  rw [← e]
  exact b2 i (by omega)
noncomputable def clsV:V→Option Value
  | .ty n=>some (.type n)
  | .ref a=>some (.ref a)
  | _=>none
theorem Qbk {x:V} {c u:Value} (h:clsV x=some c) (r:RelV x u):u=c:=by
  cases x with
  | ty n=>cases h; exact r
  | ref a=>cases h; exact r
  | _=>cases h
noncomputable def rIs (K:PySem.W.Frag):List V→Hp→VK→Prop:=fun xs H Q=>∃ x cv t c b,xs=[x,cv]∧clsV cv=some c∧TyOf K H x t∧PySem.W.kitOne K t c=some b∧Q (.bl b) H
theorem qbM:CallR X (.builtin "isinstance") (rIs X.K):=by
  intro pins s σ H xs us Q I r h
  obtain ⟨x,cv,t,c,b,rfl,e,ty,k,q⟩:=h
  cases r with
  | cons r rr =>
    cases rr with
    | cons r' rr =>
      cases rr
      have:=Qbk e r'
      subst this
      exact Za9 I r ty k fun tk=>⟨.bl b,H,I.tok tk,rfl,q⟩
end
noncomputable def excP (C x:Addr):Heap→Prop:=fun h=>∃ t T,h.get? x=some (zaC C t (.ref T))
section
variable {X:Cx}
theorem qbI {P:Program} {w:World} {k:Key} {u:Value} (r:(Qg P w).is k u=true):RelV (kV k) u:=by
  rcases Yh (show zah k u=true from r) with ⟨i,t,rfl,rfl⟩ | ⟨x,t,rfl,rfl⟩
  · exact ⟨t,rfl⟩
  · exact ⟨t,rfl⟩
theorem Qap {P:Program} {w:World}:∀ (kvs:List (Key×V)) (us:List Value),us.length=kvs.length→(∀ (j:Nat) (v:Value),us[j]?=some v→∃ kv:Key×V,kvs[j]?=some kv∧(Qg P w).is kv.1 v=true)→Vals (kvs.map fun kv=>kV kv.1) us
  | [],[],_,_=>.nil
  | [],_::_,e,_=>by simp at e
  | _::_,[],e,_=>by simp at e
  | kv::kvs,u::us,e,h=>by
    obtain ⟨kv',e',r⟩:=h 0 u rfl
    cases e'
    exact .cons (qbI r) (Qap kvs us (by simpa using e) fun j v ev=>h (j + 1) v ev)
noncomputable def ZbU:List V→Hp→VK→Prop:=fun xs H Q=>∃ a kvs,xs=[.ref a]∧H a=some (.dK kvs)∧∀ l,H l=none→Q (.ref l) (upd H l (.lst (kvs.map fun kv=>kV kv.1)))
theorem qa0 (hc:X.calm=true):CallR X (.type "list") ZbU:=by
  intro pins s σ H xs us Q I r h
  obtain ⟨a,kvs,rfl,hq,q⟩:=h
  obtain rfl:=QW r
  obtain ⟨z,hd,vs,rel,dd⟩:=ybw I.hok hq
  obtain ⟨o,es,ep,h1,h2,h3,h4⟩:=id dd
  have da:s.heap.DictAt (Qg X.prog X.w) a vs ep:=⟨o,es,h1,h2,h3,h4⟩
  refine PySem.W.kdl_call (PySem.W.kdl_dict hd) (I.ok.hd hc) da (by rw [← rel.length]; exact z) fun h' tk acc c keep hget items=>?_
  have hl:=rel.length
  refine ⟨.ref s.heap.objs.size,_,I.laid (t':=tk) keep (Nat.le_refl _) (show ObjOk X.prog X.w _ h' _ (.lst (kvs.map fun kv=>kV kv.1)) from ⟨by rw [List.length_map]; exact z,acc.toList,c,?_,by simpa using hget⟩),rfl,q _ (I.hok.fresh (Nat.le_refl _))⟩
  refine Qap (P:=X.prog) (w:=X.w) kvs acc.toList (by rw [Array.length_toList,items.1]; exact hl.symm) fun j v e=>?_
  obtain ⟨k,x,e1,e2⟩:=items.2 j v (by rw [← Array.getElem?_toList]; exact e)
  have hk:=rel.keys
  have e3:(kvs.map (·.1))[j]?=some k:=by rw [hk,List.getElem?_map,e1]; rfl
  rw [List.getElem?_map] at e3
  cases e4:kvs[j]? with
  | none=>rw [e4] at e3; cases e3
  | some kv=>rw [e4] at e3; cases e3; exact ⟨kv,rfl,e2⟩
theorem yaQ:∀ {ns:List Int} {us:List Value},Vals (ns.map V.int) us→IntsAre us ns
  | [],_,r=>by cases r; exact .nil
  | n::ns,_,r=>by
    rw [List.map_cons] at r
    cases r with
    | cons h t=>obtain ⟨t',rfl⟩:=(show ∃ t,_=Value.int n t from h); exact .cons n t' (yaQ t)
theorem ZaK:∀ {ns:List Int} {us:List Value},IntsAre us ns→Vals (ns.map V.int) us
  | _,_,.nil=>.nil
  | _,_,.cons n t h=>.cons ⟨t,rfl⟩ (ZaK h)
noncomputable def qbC (K:PySem.W.Frag):List V→Hp→VK→Prop:=fun xs H Q=>∃ (a:Addr) (ns:List Int),xs=[.ref a]∧SqL K H a (ns.map V.int)∧ns.length < 64∧∀ ns':List Int,ns'.Perm ns→ns'.Pairwise (·≤·)→∀ l,H l=none→Q (.ref l) (upd H l (.lst (ns'.map V.int)))
theorem YaG:CallR X (.builtin "sorted") (qbC X.K):=by
  intro pins s σ H xs us Q I r h
  obtain ⟨a,ns,rfl,hq,h64,q⟩:=h
  obtain rfl:=QW r
  obtain ⟨its,v,pl,hz⟩:=I.list hq
  have hl:=v.length
  rw [List.length_map] at hl
  obtain ⟨o,ho,hcl,n,hd⟩:=pl.isList
  refine sorted_ints (vs:=its) (ns:=ns) ⟨o,ho,hcl,n,hd⟩ (yaQ v) (by omega) fun out ns' hi hp ho=>?_
  obtain ⟨e,he⟩:=sortedAll_at s.heap its out
  have hlp:=hp.length_eq
  refine ⟨.ref (s.heap.objs.size + 1),_,I.laid (t':=s.toks) (fun b u e=>sortedAll_old e) (Nat.le_succ _) (show ObjOk X.prog X.w _ _ _ (.lst (ns'.map V.int)) from ⟨by rw [List.length_map,sizeLine_eq]; omega,out.toList,e,ZaK hi,by simpa [seqObj] using he⟩),rfl,q ns' hp ho _ (I.hok.fresh (Nat.le_succ _))⟩
end
noncomputable def Src (K:PySem.W.Frag) (mg:Str→Option Value) (x:Str) (st:Stmt) (ps:List Str):Prop:=∃ f fd,FunD K x x st f fd∧Binds K fd ps []∧mg x=some (.ref f)
noncomputable def QaI (P:Program) (w:World) (K:PySem.W.Frag) (mg:Str→Option Value) (base:Heap) (x:Str) (k:Nat) (ps:List Str) (sp:Sp):Prop :=
  ∃ f fd,FnOk P w K mg base (CX1 P w) k f fd ps sp∧Binds K fd ps []∧PySem.W.keepIn K (.ref f)=true∧mg x=some (.ref f)
section
variable {P:Program} {w:World} {K:PySem.W.Frag} {mg:Str→Option Value} {base:Heap} {x:Str} {ps:List Str} {sp:Sp}
noncomputable abbrev cxD (P:Program) (w:World) (K:PySem.W.Frag) (mg:Str→Option Value) (base:Heap) (N:List Str) (x:Str) (st:Stmt) (f:Addr) (cd:Value) (A:Around) (outer:List Env) (s:Shared) (H:Hp) (E:XK):Cx :=
  Y9 (CX1 P w) P w K mg base N x (yc st) f cd A outer s H E
theorem zca {st:Stmt} {N:List Str} {k:Nat} (S:Src K mg x st ps) (sc:FnScope N ps (yc st)) (len:∀ vs H Q E,sp vs H Q E→vs.length=ps.length)
    (hbody:∀ (f:Addr) (cdv:Value) (A:Around) (outer:List Env) (s:Shared) (H:Hp) (vs:List V) (Q:VK) (E:XK),Room k (A.deeper (envOfC x (yc st) s.heap.objs.size f cdv))→sp vs H Q E →
      ∃ t,PSs (cxD P w K mg base N x st f cdv A outer s H E) (Yg st) t∧t {nx:=fun _ H'=>Q .non H',rt:=Q} (start N vs) H):QaI P w K mg base x (k + 1) ps sp:=by
  obtain ⟨f,fd,F,b,m⟩:=S
  refine ⟨f,fd,?_,b,F.kp,m⟩
  obtain ⟨oc,od,dV,kV,doc,pm,an,cdv,ct,osl,rfl,lk,hcd⟩:=F.ex
  exact Ya1 lk hcd sc len fun A outer s H vs Q E hr hsp=>hbody f cdv A outer s H vs Q E hr hsp
end
section
variable {X:Cx} {k:Nat} {ps:List Str} {sp:Sp} {E:XK} {x:Str} {p pos:Pos} {e:Expr} {es:List Expr} {t:TA} {σ0:L2.St}
theorem Yba (d:QaI X.prog X.w X.K X.mg X.base x k ps sp) (hr:Room k X.A) (hg:Gl X x) (hx:Yz (CX1 X.prog X.w) X σ0 E) (ha:PA X (e::es) t) (hdb:(x == ("__debug__":Str))=false:=by decide)
    (he:starEach (e::es) X.env=(false,eval e X.env)::starEach es X.env:=by rfl) (hpl:(backTo pos (starEach es X.env)).any (·.1)=false:=by rfl):PE X (.Call (.Name x p) (e::es) [] pos) (ybm σ0 sp [] E t):=by
  obtain ⟨f,fd,F,b,kp,m⟩:=d
  exact zbj F hr hg m kp b .nil hx ha hdb he hpl
end
section
variable {X:Cx} {tg:Expr}
noncomputable def Its (K:PySem.W.Frag) (b:Bool) (a:Addr):It:=if b=true then Itt K a else Itl K a
noncomputable def iSq (K:PySem.W.Frag) (tl:TE):TI:=fun σ H R=>tl σ H fun x H1=>∃ b a,x=.ref a∧(∃ xs,SqS K H1 b a xs)∧R (Its K b a) H1
theorem pi_sq {l:Expr} {tl:TE} (hl:PE X l tl):PI X tg l (iSq X.K tl):=by
  intro pins s σ H R I h
  refine thn (hl pins s σ H _ I h) fun v s1 ⟨x,H1,I1,r1,q1⟩=>?_
  obtain ⟨b,a,e,⟨xs,hq⟩,q⟩:=q1
  subst e
  cases r1
  cases b with
  | false =>
    obtain ⟨its,rv,p,hz⟩:=I1.list (show SqL X.K H1 a xs from hq)
    refine wpAny_pyIter_list p.isList ?_
    refine ⟨s1.heap.objs.size,[s1.heap.objs.size],_,_,H1,rfl,I1.kept (t':=s1.toks) fun b o e=>Heap.get?_push_of_some _ e,Qbb a _,⟨_,Heap.get?_push_size _ rfl,rfl,rfl⟩,fun b hb=>?_,q⟩
    obtain rfl:=List.mem_singleton.mp hb
    exact I1.fpOk (Nat.le_refl _) (I1.hok.fresh (Nat.le_refl _))
  | true =>
    obtain ⟨its,rv,p,hz⟩:=I1.tuple (show SqT X.K H1 a xs from hq)
    refine wpAny_pyIter_tuple (show s1.heap.IsTuple a its.toArray from p) ?_
    refine ⟨s1.heap.objs.size,[s1.heap.objs.size],_,_,H1,rfl,I1.kept (t':=s1.toks) fun b o e=>Heap.get?_push_of_some _ e,YaZ a _,⟨_,Heap.get?_push_size _ rfl,rfl,rfl⟩,fun b hb=>?_,q⟩
    obtain rfl:=List.mem_singleton.mp hb
    exact I1.fpOk (Nat.le_refl _) (I1.hok.fresh (Nat.le_refl _))
end
theorem Its.go {K:PySem.W.Frag} {b:Bool} {a:Addr} {i:Nat} {H:Hp} {xs:List V} (h:SqS K H b a xs) (hi:i < xs.length):(Its K b a).go i H:=by
  cases b with
  | false=>exact ⟨xs,xs[i],h,by simp [hi]⟩
  | true=>exact ⟨xs,xs[i],h,by simp [hi]⟩
theorem Its.stop {K:PySem.W.Frag} {b:Bool} {a:Addr} {H:Hp} {xs:List V} (h:SqS K H b a xs):(Its K b a).stop xs.length H:=by
  cases b with
  | false=>exact ⟨xs,h,Nat.le_refl _⟩
  | true=>exact ⟨xs,h,Nat.le_refl _⟩
theorem Its.yld {K:PySem.W.Frag} {b:Bool} {a:Addr} {i:Nat} {H H':Hp} {xs:List V} {x:V} (h:SqS K H b a xs) (y:(Its K b a).yld i H x H'):H'=H∧xs[i]?=some x:=by
  cases b with
  | false=>exact ⟨y.1,y.2 xs h⟩
  | true=>exact ⟨y.1,y.2 xs h⟩
noncomputable def Zbu (P:Program) (w:World) (K:PySem.W.Frag) (mg:Str→Option Value) (base:Heap) (x:Str) (C:Addr) (k:Nat) (ps:List Str) (sp:Sp):Prop :=
  ∃ f fd,Mk K C f∧FnOk P w K mg base (CX1 P w) k f fd ps sp∧Binds K fd ps []∧mg x=some (.ref C)
section
variable {X:Cx} {k:Nat} {ps:List Str} {sp:Sp} {E:XK} {x:Str} {C:Addr} {p pos:Pos} {e:Expr} {es:List Expr} {t:TA} {σ0:L2.St}
theorem qbc (d:Zbu X.prog X.w X.K X.mg X.base x C k ps sp) (hr:Room (k + 1) X.A) (hg:Gl X x) (hx:Yz (CX1 X.prog X.w) X σ0 E) (ha:PA X (e::es) t) (hdb:(x == ("__debug__":Str))=false:=by decide)
    (he:starEach (e::es) X.env=(false,eval e X.env)::starEach es X.env:=by rfl) (hpl:(backTo pos (starEach es X.env)).any (·.1)=false:=by rfl):PE X (.Call (.Name x p) (e::es) [] pos) (Zbx σ0 C sp [] E t):=by
  obtain ⟨f,fd,M,F,b,m⟩:=d
  exact Zbo M F hr hg m b .nil hx ha hdb he hpl
end
section
variable {X:Cx} (K:PySem.W.Frag)
noncomputable def rLen (K:PySem.W.Frag):List V→Hp→VK→Prop:=fun xs H Q=>∃ p ys,xs=[.ref p]∧(SqL K H p ys∨SqT K H p ys)∧Q (.int ys.length) H
noncomputable def rLst (K:PySem.W.Frag):List V→Hp→VK→Prop:=fun xs H Q=>∃ p ys,xs=[.ref p]∧(SqL K H p ys∨SqT K H p ys)∧∀ l,H l=none→Q (.ref l) (upd H l (.lst ys))
noncomputable def rTup (K:PySem.W.Frag):List V→Hp→VK→Prop:=fun xs H Q=>∃ p ys,xs=[.ref p]∧((SqL K H p ys∧∀ l,H l=none→Q (.ref l) (upd H l (.tup ys)))∨(SqT K H p ys∧Q (.ref p) H))
theorem k_len (h:X.K=K:=by rfl):CallR X (.builtin "len") (rLen K):=h ▸ Qay
theorem Yb3 (h:X.K=K:=by rfl):CallR X (.type "list") (rLst K):=h ▸ Yay
theorem qbL (h:X.K=K:=by rfl):CallR X (.type "tuple") (rTup K):=h ▸ Zan
theorem k_sum (c:X.calm=true:=by rfl) (h:X.K=K:=by rfl):CallR X (.builtin "sum") (rSum K):=h ▸ Ybi c
theorem k_min (c:X.calm=true:=by rfl) (h:X.K=K:=by rfl):CallR X (.builtin "min") (rMin K):=h ▸ zbc c
theorem k_max (c:X.calm=true:=by rfl) (h:X.K=K:=by rfl):CallR X (.builtin "max") (rMax K):=h ▸ qbe c
theorem k_isi (h:X.K=K:=by rfl):CallR X (.builtin "isinstance") (rIs K):=h ▸ qbM
noncomputable def rIxQ (K:PySem.W.Frag):R2:=fun x y H Q=>∃ b p xs i v,x=.ref p∧y=.int i∧SqS K H b p xs∧atI xs i=some v∧Q v H
theorem k_ix (h:X.K=K:=by rfl):IxR X (rIxQ K):=by
  subst h
  intro value slice pins s σ H x y v u Q I rx ry hq hs
  obtain ⟨b,p,xs,i,z,e1,e2,hq,ha,q⟩:=hq
  cases b with
  | false=>exact zbN value slice pins s σ H x y v u Q I rx ry ⟨p,xs,i,z,e1,e2,hq,ha,q⟩ hs
  | true=>exact zbV value slice pins s σ H x y v u Q I rx ry ⟨p,xs,i,z,e1,e2,hq,ha,q⟩ hs
theorem k_fld {e:Expr} {f:Str} {pos:Pos} {ta:TE} (he:PE X e ta) (hb:attributeBase e f X.env (eval e X.env)=eval e X.env:=by rfl) (h:X.K=K:=by rfl):PE X (.Attribute e f pos) (tFld K ta f):=h ▸ zbZ he hb
theorem k_sq {tg l:Expr} {tl:TE} (hl:PE X l tl) (h:X.K=K:=by rfl):PI X tg l (iSq K tl):=h ▸ pi_sq hl
theorem k_zip {a b:Expr} {ta:TA} {p pos:Pos} {es:List Expr} {kt:Nat} {pt:Pos} (hg:Gl X "zip") (hm:X.mg "zip"=none) (ha:PA X [a,b] ta) (hs:starEach [a,b] X.env=[(false,eval a X.env),(false,eval b X.env)]:=by rfl) (hs2:starEach [b] X.env=[(false,eval b X.env)]:=by rfl) (h:X.K=K:=by rfl) :
    PI X (.Tuple es kt pt) (.Call (.Name "zip" p) [a,b] [] pos) (iZip K ta):=h ▸ zb4 hg hm ha hs hs2
end
end L3
end
section
set_option maxHeartbeats 4000000
namespace L3
open PySem PySem.Spec PyProof.Rows L2 M3
noncomputable def Qbl (P:Program) (w:World) (K:PySem.W.Frag) (mg:Str→Option Value) (base:Heap) (x:Str) (k:Nat) (ps:List Str) (sp:Addr→Addr→Sp):Prop :=
  ∃ f fd,FnOkH P w K mg base k f fd ps sp∧Binds K fd ps []∧PySem.W.keepIn K (.ref f)=true∧mg x=some (.ref f)
end L3
end
section
namespace L2
open PySem PySem.Spec PyProof.Rows
section
variable {X:Cx} {tg:Expr}
noncomputable def qbq:V→List V→Hp→VK→Prop:=fun x vs H Q=>∃ l b xs zs,x=.ref l∧vs=[.ref b]∧H l=some (.lst xs)∧Rd H b (.lst zs)∧xs.length + zs.length≤sizeLine∧Q .non (upd H l (.lst (xs++zs)))
theorem YaS:MtM X "list.extend" qbq:=by
  intro pins s σ H x vs v us Q I rx rv h
  obtain ⟨l,b,xs,zs,rfl,rfl,hH,hB,hz,q⟩:=h
  cases rx
  obtain ⟨u,rfl,ru⟩:=rv.one
  cases ru
  obtain ⟨z,its,n,r,hl,e⟩:=I.lstM hH
  obtain ⟨z2,its2,n2,r2,e2⟩:=hB.ok I.hok
  have hl2:=r2.length
  have hsz:its.toArray.size + its2.toArray.size≤sizeLine:=by rw [List.size_toArray,List.size_toArray]; omega
  have hlong:¬ (!its.toArray.isEmpty&&Builtin.List.listTooLong (its.toArray.size + its2.toArray.size))=true:=by
    rw [QaM hsz,Bool.and_false]
    exact Bool.false_ne_true
  refine call_meets F.slot_list_extend ⟨_,e,rfl⟩ F.entry_list_extend (F.args_list_extend_2 _ _)
    (AutoSeq1.list_extend_list_list_0 l its.toArray n b its2.toArray n2 hlong (by rw [List.size_toArray]; omega) (by omega)) ⟨e,e2,?_⟩
  refine ⟨.non,_,I.lset (its':=its++its2) hH e (by simp) (r.append r2) ?_,rfl,q⟩
  rw [List.length_append]
  omega
end
end L2
end
section
namespace L3
open PySem PySem.Spec PyProof.Rows L2 M3
section
variable {X:Cx} {k:Nat} {E:XK} {x m:Str} {p pos apos:Pos} {e o:Expr} {es:List Expr} {ta:TE} {t:TA} {σ0:L2.St}
noncomputable def Qb8 (P:Program) (w:World) (K:PySem.W.Frag) (mg:Str→Option Value) (base:Heap) (k:Nat) (C:Addr) (m:Str) (sp:Sp):Prop :=
  Cls K C∧∃ f fd ps,Meth K C m f∧FnOk P w K mg base (CX1 P w) k f fd ps sp∧Binds K fd ps []
structure Mk0 (K:PySem.W.Frag) (C:Addr):Prop where
  makes:PySem.W.makesIn K C=true
  init:PySem.W.findIn K (.ref C) "__init__"=some (some (.builtin "object.__init__"))
  kp:PySem.W.keepIn K (.ref C)=true
theorem Za6 {C:Addr} {pins:List (Addr×Obj)} {σ:L2.St} {H:Hp} {s:Shared} {Q:VK} (M:Mk0 X.K C) (I:Inv X pins σ H s)
    (h:∀ x dx,H x=none→H dx=none→dx≠x→Q (.ref x) (upd (upd H dx (.own x)) x (.ins C dx []))):wpAny (model X.prog X.w) X.A (call (.ref C) []) (EP X pins σ Q) X.xe s:=by
  have hq:=h (s.heap.objs.size + 1) s.heap.objs.size (I.hok.fresh (Nat.le_succ _)) (I.hok.fresh (Nat.le_refl _)) (Nat.ne_of_lt (Nat.lt_succ_self _))
  have I2:=Inv.made (C:=C) I
  have Y:=PySem.W.makes_of (M:=model X.prog X.w) I.kIn M.makes
  have hx:((s.heap.push PySem.W.emptyDict).push (PySem.W.instObj C s.heap.objs.size)).get? (s.heap.objs.size + 1)=some (PySem.W.instObj C s.heap.objs.size):=by
    have:=Heap.get?_push_size (s.heap.push PySem.W.emptyDict) (o:=PySem.W.instObj C s.heap.objs.size) rfl
    rwa [Heap.size_push] at this
  refine wpAny_call (ybd I.kIn M.makes M.init (fun self=>PySem.W.Looks.of_pure (PySem.W.oi_bind self)) ?_)
  have t1:PySem.W.Looks (model X.prog X.w) ((s.heap.push PySem.W.emptyDict).push (PySem.W.instObj C s.heap.objs.size)) (typeOf (.ref (s.heap.objs.size + 1))) (.ref C):=(PySem.W.Looks.ld hx).andThen .now
  have t2:PySem.W.Looks (model X.prog X.w) ((s.heap.push PySem.W.emptyDict).push (PySem.W.instObj C s.heap.objs.size)) (isInstance (.ref (s.heap.objs.size + 1)) (.type "object")) true:=t1.andThen (Y.top.keeps fun b o e=>Heap.get?_push_of_some _ (Heap.get?_push_of_some _ e))
  refine codeAny_call_builtin PySem.W.oi_plain PySem.W.entry_oi (@PySem.W.check_slot (model X.prog X.w) _ _ _ "object.__init__" "object" "__init__" (.ref (s.heap.objs.size + 1)) [] [] _ PySem.W.oi_kind PySem.W.oi_split t2 (PySem.W.oi_args (.ref (s.heap.objs.size + 1))) ?_)
  rw [PySem.W.oi_run]
  exact wpAny_pure (And.intro rfl ⟨V.ref (s.heap.objs.size + 1),_,I2,rfl,hq⟩)
noncomputable def Qb1 (C:Addr):TE:=fun σ H Q=>∀ x dx,H x=none→H dx=none→dx≠x→Q (.ref x) (upd (upd H dx (.own x)) x (.ins C dx []))
theorem Qa6 {C:Addr} (M:Mk0 X.K C) (hg:Gl X x) (hm:X.mg x=some (.ref C)) (hdb:(x == ("__debug__":Str))=false):PE X (.Call (.Name x p) [] [] pos) (Qb1 C):=by
  intro pins s σ H Q I h
  refine wpAny_Call_Name_kw (ZT I hg hm ?_ hdb)
  exact PySem.W.callWith_K0 I.kIn M.kp (Za6 M I h)
end
end L3
end
section
set_option maxHeartbeats 4000000
namespace L3
open PySem PySem.Spec PyProof.Rows L2 M3
noncomputable def yag (kf:Int→Int) (b k:Int):Int:=if kf k < kf b then k else b
section
variable {prog:Program} {w:World} {A:Around} {E:Value→Shared→Prop} {s:Shared} {q I S:Addr} {fp:List Addr} {St:Nat→Heap→Prop} {vs:Array Value} {ns:List Int} {kf:Int→Int} {g:Heap} {R:Result→Shared→Prop}
noncomputable def KpB (I S:Addr) (g h:Heap):Prop:=∀ b o,b≠I→b≠S→g.get? b=some o→h.get? b=some o
noncomputable def qbl (prog:Program) (w:World) (A:Around) (s:Shared) (q I S:Addr) (g:Heap) (kf:Int→Int) (ns:List Int):Prop :=
  ∀ (n:Int) (t:Tok) (h:Heap) (tk:Nat),n∈ns→KpB I S g h→wpAny (model prog w) A.in1 (call (.ref q) [.int n t])
    (fun u s'=>∃ h' tk' t',u=.int (kf n) t'∧s'={s with heap:=h',toks:=tk'}∧∀ b o,h.get? b=some o→h'.get? b=some o) (fun _ _=>False) {s with heap:=h,toks:=tk}
theorem Ybe (W:Walks prog w A.in1 I fp [I] vs.size (fun i v=>vs[i]?=some v) St) (hSf:S∉fp) (hSI:S≠I) (hlen:vs.size=ns.length) (hv:∀ (i:Nat) (v:Value),vs[i]?=some v→∃ n t,ns[i]?=some n∧v=Value.int n t)
    (turn:qbl prog w A s q I S g kf ns) {best:Int} (hR:∀ t h' tk',KpB I S g h'→R (.ok (.ret (.int best t))) {s with heap:=h',toks:=tk'}) :
    ∀ (r j:Nat) (h:Heap) (tk:Nat) (b:Int) (tv tb:Tok) (c:Nat),ns.length - j=r→j≤ns.length→KpB I S g h→h.get? S=some (seqObj "list" #[.int b tv,.int (kf b) tb] c)→St j h→best=(ns.drop j).foldl (yag kf) b →
      codeAny (model prog w) A (.builtin "min.loop" ⟨[.ref I,.ref q,.ref S],[]⟩) R {s with heap:=h,toks:=tk}:=by
  have hname:(toString "min"++toString ".loop":String)="min.loop":=by decide
  intro r
  induction r with
  | zero =>
    intro j h tk b tv tb c hr hj kp hS st hb
    have ej:j=ns.length:=by omega
    refine codeAny_builtin PySem.F.entry_min_loop ?_
    rw [Around.under_plainId PySem.F.plain_min_loop _]
    show wpAny _ A.in1 (seqItems? (.ref S) >>= _) _ _ _
    refine wpAny_bind (wpAny_seqItems hS rfl ?_)
    show wpAny _ A.in1 (tryCatch (pyNext (.ref I)) _ >>= _) _ _ _
    refine wpAny_bind (wpAny_tryCatch (W.done _ _ _ (by rw [hlen,← ej]; exact st) fun h' tk' hk'=>?_))
    have hS':=hk' S _ (by simpa using hSI) hS
    show wpAny _ A.in1 (updateSeq S (fun _=>#[]) >>= _) _ _ _
    refine wpAny_bind ?_
    refine wpAny_updateSeq hS' rfl (wpAny_bind (wpAny_letGo (wpAny_pure ?_)))
    have eb:best=b:=by rw [hb,ej]; simp
    subst eb
    have s1:=Heap.SameBut.update h' S (Obj.mapSeq fun _=>(#[]:Array Value))
    exact hR tv _ _ fun x o n1 n2 e=>s1.extBut x o n2 (hk' x o (by simpa using n1) (kp x o n1 n2 e))
  | succ r ih =>
    intro j h tk b tv tb c hr hj kp hS st hb
    have hlt:j < ns.length:=by omega
    refine codeAny_builtin PySem.F.entry_min_loop ?_
    rw [Around.under_plainId PySem.F.plain_min_loop _]
    show wpAny _ A.in1 (seqItems? (.ref S) >>= _) _ _ _
    refine wpAny_bind (wpAny_seqItems hS rfl ?_)
    show wpAny _ A.in1 (tryCatch (pyNext (.ref I)) _ >>= _) _ _ _
    refine wpAny_bind (wpAny_tryCatch (W.item j _ _ _ (by rw [hlen]; exact hlt) st fun v h' tk' hP st' hk'=>?_))
    obtain ⟨n,t,en,rfl⟩:=hv j v hP
    have hS':=hk' S _ (by simpa using hSI) hS
    have kp':KpB I S g h':=fun x o n1 n2 e=>hk' x o (by simpa using n1) (kp x o n1 n2 e)
    show wpAny _ A.in1 (tryCatch (holding [.int n t] (call (.ref q) [.int n t])) _ >>= _) _ _ _
    refine wpAny_bind (wpAny_tryCatch (wpAny_holding (wpAny_mono (turn n t h' tk' (List.mem_of_getElem? en) kp') (fun x s'' he=>?_) fun _ _ hF=>hF.elim)))
    obtain ⟨h2,tk2,t2,rfl,rfl,k2⟩:=he
    have hS2:=k2 _ _ hS'
    have st2:St (j + 1) h2:=W.frame _ _ _ st' fun x _ o e=>k2 x o e
    have kp2:KpB I S g h2:=fun x o n1 n2 e=>k2 x o (kp' x o n1 n2 e)
    have edrop:ns.drop j=n::ns.drop (j + 1):=by
      rw [List.drop_eq_getElem_cons hlt]
      congr 1
      exact Option.some.inj ((List.getElem?_eq_getElem hlt).symm.trans en)
    rw [edrop,List.foldl_cons] at hb
    show wpAny _ A.in1 (tryCatch (holding [.int n t,.int (kf n) t2] (richCompare .Lt (.int (kf n) t2) (.int (kf b) tb) >>= _)) _ >>= _) _ _ _
    refine wpAny_bind (wpAny_tryCatch (wpAny_holding (wpAny_bind (HT.rcLt_int _ _ _ _ _ _ _ _ _ _ ?_))))
    refine wpAny_bind (wpAny_holding (wpAny_truthy_bool ?_))
    refine wpAny_bind (wpAny_letGo (wpAny_pure ?_))
    by_cases hb':kf n < kf b
    · have s1:=Heap.SameBut.update h2 S (Obj.mapSeq fun _=>#[.int n t,.int (kf n) t2])
      obtain ⟨c2,hc2⟩:∃ c2,(h2.update S (Obj.mapSeq fun _=>#[.int n t,.int (kf n) t2])).get? S=some (seqObj "list" #[.int n t,.int (kf n) t2] c2):=⟨_,get?_update_seq hS2 fun _=>#[.int n t,.int (kf n) t2]⟩
      simp only [hb',decide_true,if_true]
      refine wpAny_bind ?_
      refine wpAny_updateSeq hS2 rfl (wpAny_bind (wpAny_letGo ?_))
      rw [hname]
      refine wpAny_pure ⟨plainId_quiet PySem.F.plain_min_loop _,ih (j + 1) _ _ n t t2 c2 (by omega) hlt (fun x o n1 n2 e=>s1.extBut x o n2 (kp2 x o n1 n2 e)) hc2 (W.frame _ _ _ st2 fun x hx o e=>s1.extBut x o (fun z=>hSf (z ▸ hx)) e) ?_⟩
      rw [hb,yag,if_pos hb']
    · simp only [hb',decide_false,Bool.false_eq_true,if_false]
      refine wpAny_bind (wpAny_letGo ?_)
      rw [hname]
      refine wpAny_pure ⟨plainId_quiet PySem.F.plain_min_loop _,ih (j + 1) _ _ b tv tb c (by omega) hlt kp2 hS2 st2 ?_⟩
      rw [hb,yag,if_neg hb']
theorem Qa7 {tup:Bool} {l:Addr} {n0:Int} {Q:Value→Shared→Prop} (hh:A.handled=none) (hl:SeqIs s.heap tup l vs) (hlen:vs.size=(n0::ns).length) (hv:∀ (i:Nat) (v:Value),vs[i]?=some v→∃ n t,(n0::ns)[i]?=some n∧v=Value.int n t)
    (turn:qbl prog w A s q s.heap.objs.size (s.heap.push (itO tup l)).objs.size s.heap kf (n0::ns))
    (hQ:∀ t h' tk',(∀ b o,s.heap.get? b=some o→h'.get? b=some o)→Q (.int (ns.foldl (yag kf) n0) t) {s with heap:=h',toks:=tk'}) :
    wpAny (model prog w) A (call (.builtin "min") [.ref l] [(Str.ofString "key",.ref q)]) Q E s:=by
  have hname:(toString "min"++toString ".loop":String)="min.loop":=by decide
  have hll:l < s.heap.objs.size:=hl.lt
  refine kmk_tree PySem.F.kind_min PySem.F.plain_min PySem.F.entry_min (kmk_min_key _ _) ?_
  show wpAny _ A.in1 (Builtin.Builtins.bindParams "min" ["key","default"] 0 ⟨[],[(Str.ofString "key",.ref q)]⟩ >>= _) _ _ s
  refine wpAny_bind (wpAny_of_eq (show Builtin.Builtins.bindParams "min" ["key","default"] 0 ⟨[],[(Str.ofString "key",.ref q)]⟩=pure [some (.ref q),none] from rfl) ?_)
  refine wpAny_bind (wpAny_pure ?_)
  refine wpAny_bind (Ys hl ?_)
  refine wpAny_bind (wpAny_newList ?_ (Nat.zero_le _))
  rw [hname]
  refine wpAny_pure ⟨plainId_quiet PySem.F.plain_min_loop _,?_⟩
  generalize hI:s.heap.objs.size=I at turn hll ⊢
  generalize hS:(s.heap.push (itO tup l)).objs.size=S at turn ⊢
  have eS:S=I + 1:=by rw [← hS,← hI]; exact size_push' ..
  have hIS:I < S:=by rw [eS]; exact Nat.lt_succ_self _
  have hlI:l≠I:=Nat.ne_of_lt hll
  have hlS:l≠S:=Nat.ne_of_lt (Nat.lt_trans hll hIS)
  have hSI:S≠I:=Nat.ne_of_gt hIS
  have hSf:S∉[I,l]:=by simp; exact ⟨hSI,Ne.symm hlS⟩
  have old:∀ b o,s.heap.get? b=some o→b≠I∧b≠S:=fun b o e=>by
    have z:=Heap.lt_size e
    rw [hI] at z
    exact ⟨Nat.ne_of_lt z,Nat.ne_of_lt (Nat.lt_trans z hIS)⟩
  have gI:((s.heap.push (itO tup l)).push (seqObj "list" #[] 0)).get? I=some (itO tup l):=by
    refine Heap.get?_push_of_some _ ?_
    rw [← hI]
    exact Heap.get?_push_size _ rfl
  have gS:((s.heap.push (itO tup l)).push (seqObj "list" #[] 0)).get? S=some (seqObj "list" #[] 0):=by
    rw [← hS]
    exact Heap.get?_push_size _ rfl
  have gk:∀ b o,s.heap.get? b=some o→((s.heap.push (itO tup l)).push (seqObj "list" #[] 0)).get? b=some o:=fun b o e=>Heap.get?_push_of_some _ (Heap.get?_push_of_some _ e)
  have W:=QV (prog:=prog) (w:=w) (A:=A.in1) hh tup I l hlI vs
  refine codeAny_builtin PySem.F.entry_min_loop ?_
  rw [Around.under_plainId PySem.F.plain_min_loop _]
  show wpAny _ A.in1 (seqItems? (.ref S) >>= _) _ _ _
  refine wpAny_bind (wpAny_seqItems gS rfl ?_)
  show wpAny _ A.in1 (tryCatch (pyNext (.ref I)) _ >>= _) _ _ _
  refine wpAny_bind (wpAny_tryCatch (W.item 0 _ _ _ (by rw [hlen]; simp) ⟨SeqIt.new gI,hl.keeps fun o e=>gk l o e⟩ fun v h' tk' hP st' hk'=>?_))
  obtain ⟨n,t,en,rfl⟩:=hv 0 v hP
  obtain rfl:n0=n:=by simpa using en
  have hS':=hk' S _ (by simpa using hSI) gS
  have kp':KpB I S s.heap h':=fun x o n1 n2 e=>hk' x o (by simpa using n1) (gk x o e)
  show wpAny _ A.in1 (tryCatch (holding [.int n0 t] (call (.ref q) [.int n0 t])) _ >>= _) _ _ _
  refine wpAny_bind (wpAny_tryCatch (wpAny_holding (wpAny_mono (turn n0 t h' tk' (List.mem_cons_self) kp') (fun x s'' he=>?_) fun _ _ hF=>hF.elim)))
  obtain ⟨h2,tk2,t2,rfl,rfl,k2⟩:=he
  have hS2:=k2 _ _ hS'
  have s1:=Heap.SameBut.update h2 S (Obj.mapSeq fun _=>#[.int n0 t,.int (kf n0) t2])
  obtain ⟨c2,hc2⟩:∃ c2,(h2.update S (Obj.mapSeq fun _=>#[.int n0 t,.int (kf n0) t2])).get? S=some (seqObj "list" #[.int n0 t,.int (kf n0) t2] c2):=⟨_,get?_update_seq hS2 fun _=>#[.int n0 t,.int (kf n0) t2]⟩
  show wpAny _ A.in1 (updateSeq S (fun _=>#[.int n0 t,.int (kf n0) t2]) >>= _) _ _ _
  refine wpAny_bind ?_
  refine wpAny_updateSeq hS2 rfl ?_
  rw [hname]
  have st2:=W.frame _ _ _ (W.frame _ _ _ st' fun x _ o e=>k2 x o e) fun x hx o e=>s1.extBut x o (fun z=>hSf (z ▸ hx)) e
  refine wpAny_pure ⟨plainId_quiet PySem.F.plain_min_loop _,Ybe (best:=ns.foldl (yag kf) n0) W hSf hSI hlen hv turn (fun t h' tk' k=>hQ t h' tk' fun b o e=>k b o (old b o e).1 (old b o e).2 e) _ 1 _ _ n0 t t2 c2 rfl (by simp) (fun x o n1 n2 e=>s1.extBut x o n2 (k2 x o (kp' x o n1 n2 e))) hc2 st2 (by simp)⟩
end
noncomputable abbrev sInk:Str:="ink"
noncomputable abbrev yw:Str:="want"
noncomputable abbrev Zt (pa:Pos):Arguments:=⟨[],[⟨sInk,none,pa⟩],none,[],[],none,[]⟩
noncomputable abbrev qt (p1 p2 p3 p4 p5:Pos):Expr:=.Call (.Name "abs" p1) [.BinOp (.Name yw p2) .Sub (.Name sInk p3) p4] [] p5
noncomputable abbrev lamSc:Scope:={kind:=.function,names:=[(sInk,.local),(yw,.free),("abs",.globalImplicit)],isGenerator:=false,isCoroutine:=false,more:=[]}
noncomputable def absI (i:Int):Int:=if i < 0 then -i else i
section
variable {prog:Program} {w:World} {A:Around} {s:Shared} {q I S c' cw:Addr} {ns:List Int} {g:Heap} {qual:Str} {pa p1 p2 p3 p4 p5:Pos} {pm ctv:Value} {wv:Int} {tw:Tok} {mg mb:Str→Option Value}
theorem qbh (hroom:A.depth < recursionLimit) (hq:g.get? q=some (PySem.W.kla_obj "<lambda>" qual (Zt pa) (qt p1 p2 p3 p4 p5) lamSc [(yw,cw)] pm c' ctv)) (hcd:g.CodeRec (.ref c') qual) (hcw:g.IsCell cw (some (.int wv tw)))
    (hlim:g.NoLimit) (hmg:g.Ns mainGlobals mg) (hmb:g.Ns builtinsNs mb) (ha:mg "abs"=none) (hb:mb "abs"=some (.builtin "abs")) (hI:g.objs.size≤I) (hS:g.objs.size≤S) :
    qbl prog w A s q I S g (fun n=>absI (wv - n)) ns:=by
  intro n t h tk _ kp
  have kp:∀ b o,g.get? b=some o→h.get? b=some o:=fun b o e=>kp b o (Nat.ne_of_lt (Nat.lt_of_lt_of_le (Heap.lt_size e) hI)) (Nat.ne_of_lt (Nat.lt_of_lt_of_le (Heap.lt_size e) hS)) e
  refine wpAny_call (PySem.W.kla_callFunE (s:={s with heap:=h,toks:=tk}) (fd:=PySem.W.kla_fn "<lambda>" qual (Zt pa) (qt p1 p2 p3 p4 p5) lamSc [(yw,cw)] pm (.ref c') ctv) hroom (kp _ _ hq) rfl rfl rfl rfl (hcd.keeps kp) ?_)
  rw [show bindArgs (PySem.W.kla_fn "<lambda>" qual (Zt pa) (qt p1 p2 p3 p4 p5) lamSc [(yw,cw)] pm (.ref c') ctv) ⟨[.int n t],[]⟩=pure [(sInk,.int n t)] from rfl]
  refine wpAny_pure (wpAny_newFunctionEnv (show ∀ y∈lamSc.names,y.2≠.cell by decide) (fun y hy=>by rw [List.mem_singleton.mp hy]; rfl) (fun h₁ hns hsb=>⟨(hlim.keeps kp).fresh _ hsb,?_⟩) rfl)
  have hk₁:∀ b o,h.get? b=some o→h₁.get? b=some o:=fun b o e=>hsb.extBut b o (Nat.ne_of_lt (Heap.lt_size e)) (Heap.get?_push_of_some _ e)
  have hk₂:∀ b o,g.get? b=some o→h₁.get? b=some o:=fun b o e=>hk₁ b o (kp b o e)
  refine PySem.W.kla_codeExpr ?_
  refine wpAny_Call_Name_kw (Calls.Name_function_global rfl rfl (Calls.loadGlobal_builtin (hmg.keeps hk₂) ha (hmb.keeps hk₂) hb ?_) (by decide))
  refine PyProof.Rows.callWith_builtin1 ?_
  refine Calls.spliced_cons ?_
  refine wpAny_BinOp ?_
  have ecw:h₁.IsCell cw (some (.int wv tw)):=let ⟨o,e,d⟩:=hcw; ⟨o,hk₂ _ _ e,d⟩
  refine wpAny_Name (wpAny_loadName_free rfl rfl rfl ecw ?_ (by decide)) (by decide)
  refine wpAny_Name (wpAny_loadName_local rfl rfl hns (v:=.int n t) rfl ?_) (by decide)
  refine sub_int ?_
  refine Calls.spliced_nil ?_
  exact call_abs_int fun u tk=>⟨_,_,_,rfl,rfl,hk₁⟩
end
end L3
end
section
set_option maxHeartbeats 4000000
namespace L3
open PySem PySem.Spec PyProof.Rows L2 M3
noncomputable def qA (P:Addr) (lp:Pos) (oc:Option Addr):Heap→Prop:=fun h=>∃ ps:Array Value,h.get? P=some (PySem.W.tabObj ps)∧TriplesOk ps.toList∧codeAmong lp ps.toList=oc.map Value.ref
noncomputable def yae (c':Addr) (q:Str):Heap→Prop:=fun h=>h.CodeRec (.ref c') q
noncomputable def ZbR (H:Hp) (P:Addr) (lp:Pos) (q:Str):Prop:=H P=some (.ext (qA P lp none))∨∃ c',c'≠P∧H P=some (.ext (qA P lp (some c')))∧H c'=some (.ext (yae c' q))
noncomputable def za3 (H:Hp) (P:Addr) (lp:Pos) (q:Str) (H2:Hp):Prop:=H2=H∨∃ c',H P=some (.ext (qA P lp none))∧H c'=none∧H2=upd (upd H c' (.ext (yae c' q))) P (.ext (qA P lp (some c')))
structure LamB (mg:Str→Option Value) (base:Heap) (c P:Addr):Prop where
  code:PySem.W.CodeHd base c P
  bmain:∃ bm ob,mg "__builtins__"=some (.ref bm)∧bm≠builtinsNs∧base.get? bm=some ob∧ob.cls=.type "module"∧ob.dict=some builtinsNs∧ob.data=.plain
theorem qaC {P:Program} {w:World} {H:Hp} {h:Heap} {T:Addr} {lp:Pos} {oc:Option Addr} (x:qA T lp oc h):ObjOk P w H h T (.ext (qA T lp oc)):=by
  obtain ⟨ps,e,r⟩:=id x
  exact ⟨x,⟨_,e⟩,fun h1 h2 ⟨ps,e,r⟩ k=>⟨ps,k _ e,r⟩⟩
theorem qbJ {P:Program} {w:World} {H:Hp} {h:Heap} {c':Addr} {q:Str} (x:yae c' q h):ObjOk P w H h c' (.ext (yae c' q)):=by
  obtain ⟨c,oc,vs,tq,e0,e,r⟩:=id x
  cases e0
  exact ⟨x,⟨_,e⟩,fun h1 h2 ⟨c,oc,vs,tq,e0,e,r⟩ k=>by cases e0; exact ⟨c',oc,vs,tq,rfl,k _ e,r⟩⟩
section
variable {X:Cx} {pins:List (Addr×Obj)} {σ:L2.St} {H:Hp} {s:Shared} {h':Heap} {P c':Addr} {lp:Pos} {q:Str}
theorem YbM {t':Nat} (I:Inv X pins σ H s) (hP:H P=some (.ext (qA P lp none))) (hx:Heap.ExtBut P s.heap h') (hc:s.heap.objs.size≤c') (cd:yae c' q h') (tb:qA P lp (some c') h') :
    Inv X pins σ (upd (upd H c' (.ext (yae c' q))) P (.ext (qA P lp (some c')))) {s with heap:=h',toks:=t'}:=by
  have hc0:H c'=none:=I.hok.fresh hc
  have neP:∀ b u,H b=some u→(∀ φ,u≠HO.ext φ)→b≠P:=fun b u e n z=>by
    rw [z,hP] at e
    cases e
    exact n _ rfl
  have neN:∀ b,H b=none→b≠P:=fun b e z=>by rw [z,hP] at e; cases e
  have nec:∀ b u,H b=some u→b≠c':=fun b u e z=>by rw [z,hc0] at e; cases e
  have hcP:c'≠P:=neN _ hc0
  have same:∀ b,b≠P→b≠c'→upd (upd H c' (.ext (yae c' q))) P (.ext (qA P lp (some c'))) b=H b:=fun b n1 n2=>by rw [Zb n1,Zb n2]
  refine I.un ⟨fun b o e n _ _=>hx b o (neN b n) e,fun b o e n _ _=>⟨o.slots,hx b o (neN b n) e⟩,fun b o e n _=>?_,fun b o e _=>?_,fun b xs e=>?_,fun b o u e=>?_,fun b ps e=>⟨#[],?_⟩⟩ fun b u e=>?_
  · rw [same b (neN b n) fun z=>absurd (Heap.lt_size e) (by rw [z]; exact Nat.not_lt.mpr hc)]; exact n
  · by_cases hb:b=P
    · obtain ⟨ps,e1,_⟩:=tb; exact ⟨_,by rw [hb]; exact e1⟩
    · exact ⟨o,hx b o hb e⟩
  · rw [same b (neP b _ e fun φ z=>nomatch z) (nec b _ e)]; exact e
  · rw [same b (neP b _ e fun φ z=>nomatch z) (nec b _ e)]; exact e
  · rw [same b (neP b _ e fun φ z=>nomatch z) (nec b _ e),e]; simp
  · by_cases hb:b=P
    · subst hb
      rw [yd] at e; cases e
      exact qaC tb
    · rw [Zb hb] at e
      by_cases hb':b=c'
      · subst hb'
        rw [yd] at e; cases e
        exact qbJ cd
      · rw [Zb hb'] at e
        refine (I.hok b u e).stay (fun c v hc q=>hx c v ?_ q) (fun c z=>?_) fun c xs z=>?_
        · rcases hc with z | z
          · rw [z]; exact hb
          · exact neP c _ z fun φ z=>nomatch z
        · rw [same c (neP c _ z fun φ z=>nomatch z) (nec c _ z)]; exact z
        · rw [same c (neP c _ z fun φ z=>nomatch z) (nec c _ z)]; exact z
theorem QaN {env:Env} {cw:Addr} (h:env.cells.lookup yw=some cw):closureFor lamSc env=pure [(yw,cw)]:=by
  unfold closureFor cellOf
  simp [h]
noncomputable def tMinK (K:PySem.W.Frag) (P:Addr) (lp:Pos) (q:Str) (j:Nat) (te:TE):TE:=fun σ H Q=>te σ H fun x H1=>∃ (b:Bool) (a:Addr) (n0:Int) (ns:List Int) (wv:Int),x=.ref a∧SqS K H1 b a ((n0::ns).map V.int)∧σ[j]?=some (some (.int wv))∧ZbR H1 P lp q ∧
  ∀ H2,za3 H1 P lp q H2→Q (.int (ns.foldl (yag fun k=>absI (wv - k)) n0)) H2
noncomputable abbrev ybR (e:Expr) (pm0 pa p1 p2 p3 p4 p5 lp pk pc:Pos):Expr:=.Call (.Name "min" pm0) [e] [⟨some "key",.Lambda (Zt pa) (qt p1 p2 p3 p4 p5) lamSc lp,pk⟩] pc
theorem zbl {b:Bool} {a f cw:Addr} {n0 wv:Int} {ns:List Int} {qual:Str} {pa p1 p2 p3 p4 p5:Pos} {pm ctv:Value} {Q:VK} (I:Inv X pins σ H s) (hcalm:X.calm=true) (hroom:X.A.depth < recursionLimit) (hma:X.mg "abs"=none)
    (hq:s.heap.get? f=some (PySem.W.kla_obj "<lambda>" qual (Zt pa) (qt p1 p2 p3 p4 p5) lamSc [(yw,cw)] pm c' ctv)) (hcd:s.heap.CodeRec (.ref c') qual) {tw:Tok} (hcw:s.heap.IsCell cw (some (.int wv tw)))
    (sq:SqS X.K H b a ((n0::ns).map V.int)) (h:Q (.int (ns.foldl (yag fun k=>absI (wv - k)) n0)) H) :
    wpAny (model X.prog X.w) X.A (call (.builtin "min") [.ref a] [(Str.ofString "key",.ref f)]) (EP X pins σ Q) X.xe s:=by
  obtain ⟨its,rv,si,hz⟩:=yt I sq
  obtain ⟨mb,hb1,hb2⟩:=I.mod.blt
  have hl:=rv.length
  refine Qa7 (kf:=fun k=>absI (wv - k)) (ns:=ns) (n0:=n0) (I.ok.hd hcalm) si (by simp at hl ⊢; omega) (fun i v e=>?_) (qbh hroom hq hcd hcw I.nolimit (I.mod.glob.keeps I.bk) (hb1.keeps I.bk) hma ((hb2 _ (by decide)).trans rfl) (Nat.le_refl _) (Nat.le_of_lt (by rw [size_push']; exact Nat.lt_succ_self _))) fun t h' tk' k=>⟨.int _,H,I.kept k,⟨_,rfl⟩,h⟩
  have e':its[i]?=some v:=by simpa using e
  have hi:i < (n0::ns).length:=by
    have:=(List.getElem?_eq_some_iff.mp e').1
    rw [List.length_map] at hl
    omega
  obtain ⟨u,hu,rx⟩:=rv.get (i:=i) (x:=V.int (n0::ns)[i]) (by rw [List.getElem?_map,List.getElem?_eq_getElem hi]; rfl)
  rw [e'] at hu
  cases hu
  obtain ⟨t,rfl⟩:=rx
  exact ⟨_,t,List.getElem?_eq_getElem hi,rfl⟩
theorem zbM {K:PySem.W.Frag} {H2:Hp} {b:Bool} {a:Addr} {xs:List V} (sq:SqS K H b a xs) (k:∀ b u,H b=some u→(∀ φ,u≠HO.ext φ)→H2 b=some u):SqS K H2 b a xs:=by
  cases b with
  | false =>
    rcases (show SqL K H a xs from sq) with (e | ⟨o,e⟩) | z
    · exact (show SqL K H2 a xs from .inl (.inl (k _ _ e fun φ z=>nomatch z)))
    · exact (show SqL K H2 a xs from .inl (.inr ⟨o,k _ _ e fun φ z=>nomatch z⟩))
    · exact (show SqL K H2 a xs from .inr z)
  | true =>
    rcases (show SqT K H a xs from sq) with (e | ⟨o,e⟩) | z
    · exact (show SqT K H2 a xs from .inl (.inl (k _ _ e fun φ z=>nomatch z)))
    · exact (show SqT K H2 a xs from .inl (.inr ⟨o,k _ _ e fun φ z=>nomatch z⟩))
    · exact (show SqT K H2 a xs from .inr z)
theorem YbK {e:Expr} {te:TE} {c:Addr} {j:Nat} {pm0 pa p1 p2 p3 p4 p5 pk pc:Pos} (he:PE X e te) (hg:Gl X "min") (hm:X.mg "min"=none) (hma:X.mg "abs"=none) (hcalm:X.calm=true) (hroom:X.A.depth < recursionLimit)
    (hcode:X.env.code=.ref c) (L:LamB X.mg X.base c P) (hN:X.N[j]?=some yw) (hk:X.env.kindOf yw=some .cell) (hs:starEach [e] X.env=[(false,eval e X.env)]:=by rfl) :
    PE X (ybR e pm0 pa p1 p2 p3 p4 p5 lp pk pc) (tMinK X.K P lp (X.env.qual++"<lambda>") j te):=by
  intro pins s σ H Q I h
  refine wpAny_Call_Name_kw (Q2 I hg hm rfl ?_)
  refine callWith_kw (rest:=[]) ?_ (by rw [hs]; rfl) (by rw [hs]; rfl)
  rw [hs]
  refine Calls.spliced_cons (thn (he pins s σ H _ I h) fun u s1 ⟨x,H1,I1,r1,b,a,n0,ns,wv,ex,sq,ew,tok,q1⟩=>Calls.spliced_nil ?_)
  subst ex
  obtain rfl:u=.ref a:=r1
  refine wpAny_evalAll_cons (wpAny_bind ?_)
  refine PySem.W.kla_eval rfl ?_
  -- the cell of want
  obtain ⟨m,hn,hl⟩:=id I1.loc
  obtain ⟨uw,rw_,lw⟩:=hl j yw (.int wv) hN ew (.inr (.inl hk))
  obtain ⟨tw,rfl⟩:=rw_
  rcases lw with ⟨hk',_⟩ | ⟨_,cw,hcw,hcell⟩
  · rw [hk] at hk'; cases hk'
  have hcl:=QaN hcw
  obtain ⟨bm,ob,b1,b2,b3,b4,b5,b6⟩:=L.bmain
  have hgs:=I1.mod.glob.keeps I1.bk
  have hbm:=I1.bk _ _ b3
  have C:=L.code.keeps I1.bk
  have fin:∀ {s2:Shared} {H2:Hp} {f c':Addr} {pm ctv:Value},Inv X pins σ H2 s2→za3 H1 P lp (X.env.qual++"<lambda>") H2→SqS X.K H2 b a ((n0::ns).map V.int) →
      s2.heap.get? f=some (PySem.W.kla_obj "<lambda>" (X.env.qual++"<lambda>") (Zt pa) (qt p1 p2 p3 p4 p5) lamSc [(yw,cw)] pm c' ctv)→s2.heap.CodeRec (.ref c') (X.env.qual++"<lambda>")→s2.heap.IsCell cw (some (.int wv tw)) →
      wpAny (model X.prog X.w) X.A (standAt pc >>= fun _=>pure (Value.ref f)) (fun v s₁=>wpAny (model X.prog X.w) X.A (evalAll []) (fun vs s₂=>wpAny (model X.prog X.w) X.A (call (.builtin "min") [.ref a] ([Str.ofString "key"].zip (v::vs))) (EP X pins σ Q) X.xe s₂) X.xe s₁) X.xe s2:=fun {s2 H2 f c' pm ctv} I2 nx sq2 hq hcd hcw2 =>
    wpAny_bind (wpAny_standAt (wpAny_pure (wpAny_evalAll_nil (zbl I2 hcalm hroom hma hq hcd hcw2 sq2 (q1 _ nx)))))
  rcases tok with hP | ⟨c',hcP,hP,hc'⟩
  · obtain ⟨⟨ps,e1,e2,e3⟩,_⟩:=I1.hok P _ hP
    have hgP:mainGlobals≠P:=fun q=>by
      obtain ⟨o,es,ep,e,hd,_⟩:=hgs
      rw [q,e1] at e; cases e; cases hd
    have hbP:bm≠P:=fun q=>by
      rw [q,e1] at hbm; cases hbm; cases b4
    have hbG:bm≠mainGlobals:=fun q=>by
      obtain ⟨o,es,ep,e,hd,_⟩:=hgs
      rw [q,e] at hbm; cases hbm; rw [hd] at b6; cases b6
    refine PySem.W.kla_makeFunction (mg:=X.mg) hcl I1.ok.glob hgs hcode C e1 e2 e3 hgP ⟨bm,ob,b1,b2,hbG,hbP,hbm,b4,b5,b6⟩ fun c' ctv h' tk hx hge hlt hrec htb=>?_
    have hx':Heap.ExtBut P s1.heap (h'.push (PySem.W.kla_obj "<lambda>" (X.env.qual++"<lambda>") (Zt pa) (qt p1 p2 p3 p4 p5) lamSc [(yw,cw)] ((X.mg "__name__").getD .none) c' ctv)):=fun b o n e=>Heap.get?_push_of_some _ (hx b o n e)
    have cd:yae c' (X.env.qual++"<lambda>") (h'.push (PySem.W.kla_obj "<lambda>" (X.env.qual++"<lambda>") (Zt pa) (qt p1 p2 p3 p4 p5) lamSc [(yw,cw)] ((X.mg "__name__").getD .none) c' ctv)):=hrec.keeps fun b o e=>Heap.get?_push_of_some _ e
    have tb:qA P lp (some c') (h'.push (PySem.W.kla_obj "<lambda>" (X.env.qual++"<lambda>") (Zt pa) (qt p1 p2 p3 p4 p5) lamSc [(yw,cw)] ((X.mg "__name__").getD .none) c' ctv)) :=
      ⟨_,Heap.get?_push_of_some _ htb,by rw [Array.toList_append]; exact TriplesOk_snoc _ _ _ _ e2,by rw [Array.toList_append]; exact codeAmong_snoc _ e2 e3⟩
    have hc0:H1 c'=none:=I1.hok.fresh hge
    have I2:=YbM (t':=tk) I1 hP hx' hge cd tb
    refine fin I2 (.inr ⟨c',hP,hc0,rfl⟩) ?_ (Heap.get?_push_size _ rfl) cd ?_
    · refine zbM sq fun b u e n=>?_
      rw [Zb fun z=>by rw [z,hP] at e; cases e; exact n _ rfl,Zb fun z=>by rw [z,hc0] at e; cases e]
      exact e
    · obtain ⟨o,e,d⟩:=hcell
      refine ⟨o,hx' _ _ (fun q=>?_) e,d⟩
      rw [q,e1] at e; cases e; cases d
  · obtain ⟨⟨ps,e1,e2,e3⟩,_⟩:=I1.hok P _ hP
    obtain ⟨cd,_⟩:=I1.hok c' _ hc'
    have hbP:bm≠P:=fun q=>by
      rw [q,e1] at hbm; cases hbm; cases b4
    have hbG:bm≠mainGlobals:=fun q=>by
      obtain ⟨o,es,ep,e,hd,_⟩:=hgs
      rw [q,e] at hbm; cases hbm; rw [hd] at b6; cases b6
    refine PySem.W.kla_makeFunctionHit (mg:=X.mg) hcl I1.ok.glob hgs hcode C e1 e2 e3 ⟨bm,ob,b1,b2,hbG,hbP,hbm,b4,b5,b6⟩ fun ctv h' tk hk hsz=>?_
    have hk':∀ b o,s1.heap.get? b=some o→(h'.push {cls:=.type "function",data:=.func (PySem.W.kla_fn "<lambda>" (X.env.qual++"<lambda>") (Zt pa) (qt p1 p2 p3 p4 p5) lamSc [(yw,cw)] ((X.mg "__name__").getD .none) (.ref c') ctv)}).get? b=some o:=fun b o e=>Heap.get?_push_of_some _ (hk b o e)
    obtain ⟨o,e,d⟩:=hcell
    exact fin (I1.kept (t':=tk) hk') (.inl rfl) sq (Heap.get?_push_size _ rfl) (Heap.CodeRec.keeps cd hk') ⟨o,hk' _ _ e,d⟩
end
end L3
end
section
set_option maxHeartbeats 4000000
namespace L3
open PySem PySem.Spec PyProof.Rows L2 M3
noncomputable def RawD (h:Heap) (d:Addr) (es:Array DictEntry) (ep:Nat):Prop:=∃ o,h.get? d=some o∧o.ExactDict∧o.data=.dict es ep
section
variable {prog:Program} {w:World} {A:Around} {E:Value→Shared→Prop} {s:Shared}
theorem RawD.typeIs {d:Addr} {es:Array DictEntry} {ep:Nat} (x:RawD s.heap d es ep):s.TypeIs (.ref d) "dict":=let ⟨o,e,c,_⟩:=x; ⟨o,e,c.1⟩
theorem zaU {d:Addr} {es:Array DictEntry} {ep:Nat} {Q:Value→Shared→Prop} (hd:(d == sysModules)=false) (hm:RawD s.heap d es ep)
    (hQ:Q (.ref s.heap.objs.size) {s with heap:=s.heap.push {cls:=.type "dict_keyiterator",data:=.fields #[.ref d,.int 0 0,.int es.size 0,.int ep 0]}}) :
    wpAny (model prog w) A (pyIter (.ref d)) Q E s:=by
  have hT:=hm.typeIs
  obtain ⟨o,ho,hc,hdat⟩:=id hm
  refine wpAny_pyIter_slot hT PySem.F.slot_dict_iter (wpAny_call_entry PySem.F.slot_dict_iter hT PySem.F.entry_dict_iter ?_ (PySem.F.args_dict_iter_1 _))
  unfold Builtin.«dict.__iter__»
  refine wpAny_bind ?_
  unfold Builtin.Dict.dictSlotNone
  refine wpAny_bind (wpAny_notOrdered_dict hT ?_)
  show wpAny _ _ (pure (Value.ref d)) _ _ s
  refine wpAny_pure ?_
  show wpAny _ _ (Builtin.Dict.showsAll d >>= _) _ _ s
  unfold Builtin.Dict.showsAll
  rw [if_neg (by rw [hd]; exact Bool.false_ne_true)]
  refine wpAny_bind (wpAny_pure ?_)
  refine wpAny_bind (wpAny_dictEntries ho hdat ?_)
  refine wpAny_bind (wpAny_dictEpoch ho hdat ?_)
  refine wpAny_bind (wpAny_newObj_type (wpAny_pure ⟨_,rfl,"dict_keyiterator",_,⟨_,Heap.get?_push_size _ rfl,rfl⟩,PySem.F.slot_dict_keyiterator_next.lookup,?_⟩))
  simpa [rawInt] using hQ
theorem qaU {it d:Addr} {i ep:Nat} {es:Array DictEntry} {Q:Option Value→Shared→Prop} (hit:s.heap.IsKeyIter it d i es.size ep)
    (hm:RawD s.heap d es ep) (hlt':i < es.size)
    (hQ:∀ h',h'.IsKeyIter it d (i + 1) es.size ep→Heap.SameBut it s.heap h'→Q (some es[i].key) {s with heap:=h'}) :
    wpAny (model prog w) A (pyNext (.ref it)) Q E s:=by
  obtain ⟨o,ho,hc,hd⟩:=id hit
  obtain ⟨od,hod,hcd,hdd⟩:=id hm
  unfold pyNext
  refine wpAny_bind (wpAny_attempt (wpAny_callSpecial?_slot (name:=Str.ofString "__next__") hit.typeIs PySem.F.slot_dict_keyiterator_next
    (wpAny_call_entry PySem.F.slot_dict_keyiterator_next hit.typeIs PySem.F.entry_dict_keyiterator_next ?_ (PySem.F.args_dict_keyiterator_next_1 _))))
  refine wpAny_bind (wpAny_pure ?_)
  refine wpAny_bind ?_
  refine wpAny_bind ?_
  first | refine wpAny_bind (wpAny_typeNameOfWhole_keyiter hit.typeIs (wpAny_pure ?_)) | refine wpAny_bind (wpAny_typeNameOf_keyiter hit.typeIs (wpAny_pure ?_))
  refine wpAny_bind (wpAny_fieldsOf ho hd ?_)
  have hown:Builtin.Dict_items.ownsTuple "dict_keyiterator"=false:=by decide
  simp only [hown,Bool.false_eq_true,if_false]
  show wpAny _ _ (if (Value.ref d == Value.none)=true then _ else _) _ _ s
  rw [if_neg (show ¬ ((Value.ref d == Value.none)=true) from Bool.false_ne_true)]
  refine wpAny_bind (wpAny_pure ?_)
  refine wpAny_bind (wpAny_dictEntries hod hdd ?_)
  rw [if_neg (by simp)]
  refine wpAny_bind (wpAny_pure ?_)
  refine wpAny_bind (wpAny_dictEpoch hod hdd ?_)
  rw [if_neg (by simp)]
  refine wpAny_pure ?_
  simp only [show ¬ ((i:Int) < 0) from by omega,if_false,Int.toNat_natCast,Array.getElem?_eq_getElem hlt']
  refine wpAny_bind ?_
  first | refine wpAny_bind (wpAny_typeNameOfWhole_keyiter hit.typeIs (wpAny_pure ?_)) | refine wpAny_bind (wpAny_typeNameOf_keyiter hit.typeIs (wpAny_pure ?_))
  refine wpAny_bind (wpAny_isOneOf_keyiter hit.typeIs ?_)
  show wpAny _ _ (setField (.ref it) 1 (rawInt ((i:Int) + 1)) >>= _) _ _ s
  refine wpAny_bind (wpAny_setField ho hd (by simp) ?_)
  have hit':(s.heap.update it (Obj.mapFields (·.setIfInBounds 1 (rawInt ((i:Int) + 1))))).IsKeyIter it d (i + 1) es.size ep :=
    ⟨_,Heap.get?_update_self _ ho (Obj.isFreed_of_fields (Obj.data_mapFields hd _)),(Obj.cls_mapFields ..).trans hc,by rw [Obj.data_mapFields hd]; simp [rawInt]⟩
  refine wpAny_bind (wpAny_holding ?_)
  refine wpAny_bind (wpAny_isOneOf_keyiter (s:={s with heap:=s.heap.update it (Obj.mapFields (·.setIfInBounds 1 (rawInt ((i:Int) + 1))))}) hit'.typeIs ?_)
  show wpAny _ _ (pure es[i].key) _ _ _
  exact wpAny_pure (wpAny_pure ⟨_,rfl,wpAny_pure (hQ _ hit' (Heap.SameBut.update ..))⟩)
theorem Qam {it d:Addr} {i ep:Nat} {es:Array DictEntry} {Q:Option Value→Shared→Prop} (hh:A.handled=none) (hit:s.heap.IsKeyIter it d i es.size ep)
    (hm:RawD s.heap d es ep) (hge:es.size≤i)
    (hQ:∀ h',Heap.ExtBut it s.heap h'→Q none {s with heap:=h'}):wpAny (model prog w) A (pyNext (.ref it)) Q E s:=by
  obtain ⟨o,ho,hc,hd⟩:=id hit
  obtain ⟨od,hod,hcd,hdd⟩:=id hm
  unfold pyNext
  refine wpAny_bind (wpAny_attempt (wpAny_callSpecial?_slot (name:=Str.ofString "__next__") hit.typeIs PySem.F.slot_dict_keyiterator_next
    (wpAny_call_entry PySem.F.slot_dict_keyiterator_next hit.typeIs PySem.F.entry_dict_keyiterator_next ?_ (PySem.F.args_dict_keyiterator_next_1 _))))
  refine wpAny_bind (wpAny_pure ?_)
  refine wpAny_bind ?_
  refine wpAny_bind ?_
  first | refine wpAny_bind (wpAny_typeNameOfWhole_keyiter hit.typeIs (wpAny_pure ?_)) | refine wpAny_bind (wpAny_typeNameOf_keyiter hit.typeIs (wpAny_pure ?_))
  refine wpAny_bind (wpAny_fieldsOf ho hd ?_)
  have hown:Builtin.Dict_items.ownsTuple "dict_keyiterator"=false:=by decide
  simp only [hown,Bool.false_eq_true,if_false]
  show wpAny _ _ (if (Value.ref d == Value.none)=true then _ else _) _ _ s
  rw [if_neg (show ¬ ((Value.ref d == Value.none)=true) from Bool.false_ne_true)]
  refine wpAny_bind (wpAny_pure ?_)
  refine wpAny_bind (wpAny_dictEntries hod hdd ?_)
  rw [if_neg (by simp)]
  refine wpAny_bind (wpAny_pure ?_)
  refine wpAny_bind (wpAny_dictEpoch hod hdd ?_)
  rw [if_neg (by simp)]
  refine wpAny_pure ?_
  simp only [show ¬ ((i:Int) < 0) from by omega,if_false,Int.toNat_natCast,Array.getElem?_eq_none hge]
  refine wpAny_bind ?_
  first | refine wpAny_bind (wpAny_typeNameOfWhole_keyiter hit.typeIs (wpAny_pure ?_)) | refine wpAny_bind (wpAny_typeNameOf_keyiter hit.typeIs (wpAny_pure ?_))
  show wpAny _ _ (setField (.ref it) 0 .none >>= _) _ _ s
  refine wpAny_bind (wpAny_setField ho hd (by simp) ?_)
  show wpAny _ _ (newExc (.type "StopIteration") [] >>= _) _ _ _
  refine wpAny_bind ?_
  simp only [newExc,newTuple]
  refine wpAny_bind (wpAny_newObj_type ?_ (by size_fits))
  refine wpAny_bind (m:=firstArgMember _ _) (wpAny_of_eq (a:=Value.none) (by first | rfl | (simp only [firstArgMember]; rfl)) ?_)
  refine wpAny_newObj_type ?_ (by size_fits)
  simp only [raiseNew]
  refine wpAny_bind (wpAny_handled ?_)
  rw [show A.in1.handled=none from hh]
  refine wpAny_bind (wpAny_pure (wpAny_throw ?_))
  refine wpAny_bind (wpAny_isInstance (T:="StopIteration") (b:=true) ⟨_,Heap.get?_push_size _ rfl,rfl⟩ isSubtype_stop ?_)
  exact wpAny_pure (hQ _ (((Heap.SameBut.update ..).extBut.push _).push _))
end
noncomputable def Itd (a:Addr) (o:Obj):It :=
  ⟨fun i H=>∃ kvs,H a=some (.frz o (.dT kvs))∧i < kvs.length,
   fun i H x H'=>H'=H∧∃ T,x=.ref T∧∀ kvs,H a=some (.frz o (.dT kvs))→∃ kv,kvs[i]?=some kv∧H T=some (.tup (kv.1.map kV)),
   fun i H=>∃ kvs,H a=some (.frz o (.dT kvs))∧i=kvs.length⟩
theorem zaJ {α β:Type} {F:α→β→Prop}:∀ {l₁:List α} {l₂:List β} {i:Nat} {x:α},Paired F l₁ l₂→l₁[i]?=some x→∃ y,l₂[i]?=some y∧F x y
  | _,_,i,x,.nil,e=>by simp at e
  | _,_,0,x,.cons r t,e=>by simp at e; subst e; exact ⟨_,rfl,r⟩
  | _,_,i + 1,x,.cons r t,e=>by
    obtain ⟨y,h1,h2⟩:=zaJ t (by simpa using e)
    exact ⟨y,by simpa using h1,h2⟩
theorem yaq {α β:Type} {F:α→β→Prop}:∀ {l₁:List α} {l₂:List β},Paired F l₁ l₂→l₁.length=l₂.length
  | _,_,.nil=>rfl
  | _,_,.cons r t=>by simp [yaq t]
theorem zaW {P:Program} {w:World} {H:Hp} {h:Heap} {a:Addr} {o:Obj} {kvs:List (List Key×V)} {es:Array DictEntry} {ep:Nat} (ok:HOk P w H h) (e:H a=some (.frz o (.dT kvs))) (ho:o.data=.dict es ep) :
    RawD h a es ep∧(a == sysModules)=false∧es.size=kvs.length∧∀ (i:Nat) (hi:i < es.size),∃ kv T,kvs[i]?=some kv∧es[i].key=.ref T∧H T=some (.tup (kv.1.map kV)):=by
  obtain ⟨g,z,y,xs,r,o',es',ep',e1,e2,e3,e4,_⟩:=ok a _ e
  rw [g] at e1; cases e1
  rw [ho] at e3; cases e3
  have hl:es.size=kvs.length:=by
    have:=congrArg List.length e4
    simp at this
    rw [this,yaq r]
  refine ⟨⟨o,g,e2,ho⟩,y,hl,fun i hi=>?_⟩
  obtain ⟨q,h1,h2⟩:=zaJ r (i:=i) (x:=kvs[i]'(by omega)) (by simp [show i < kvs.length by omega])
  refine ⟨_,q.2.1,by simp [show i < kvs.length by omega],?_,h2.2.1⟩
  have:es.toList[i]?=(xs.map (entryOfKey (tupleKind (Qg P w))))[i]?:=by rw [e4]
  rw [List.getElem?_map,h1] at this
  have h3:es[i]?=some es[i]:=by simp [hi]
  simp only [Array.getElem?_toList,h3,Option.map_some,Option.some.injEq] at this
  rw [this]
  rfl
theorem zbd {P:Program} {w:World} {K:PySem.W.Frag} {tg:Expr} {es:Array DictEntry} {ep:Nat} {o:Obj} (ho:o.data=.dict es ep) (a it:Addr) (hne:a≠it):Turn P w K tg (Itd a o) [it] it (fun i h=>h.IsKeyIter it a i es.size ep) where
  mem:=by simp
  obj:=fun i h st b hb=>by
    have e:b=it:=by simpa using hb
    subst e
    obtain ⟨o,e,c,d⟩:=st
    exact ⟨o,e,fun v z=>by rw [d] at z; cases z⟩
  keep:=fun i h h' st k=>let ⟨o,e,c⟩:=st; ⟨o,k it (by simp) o e,c⟩
  item:=by
    intro X hP hw hK hc i pins s σ H E I hf st hg
    subst hP hw hK
    obtain ⟨kvs,hq,hx⟩:=hg
    obtain ⟨rd,_,hl,key⟩:=zaW I.hok hq ho
    obtain ⟨kv,T,h1,h2,h3⟩:=key i (by omega)
    obtain ⟨f0,f1,f2,f3,f4,f5⟩:=hf it (by simp)
    refine qaU st rd (by omega) fun h' st' sb=>?_
    have I1:Inv X pins σ H {s with heap:=h'}:=I.turned (t':=s.toks) (fun b o hb e=>(sb.2 b hb).trans e) f0 f1 f3 f4 f5
    obtain ⟨o',e,c,d⟩:=id st'
    refine ⟨_,rfl,Ya5 (s:={s with heap:=h'}) e c d (by decide) ⟨.ref T,H,I1,h2,⟨rfl,T,rfl,fun kvs' hk=>?_⟩,st',fun b hb=>(hf b hb).1⟩⟩
    rw [hq] at hk; cases hk
    exact ⟨kv,h1,h3⟩
  done:=by
    intro X hP hw hK hc i pins s σ H E I hf st hg
    subst hP hw hK
    obtain ⟨kvs,hq,hx⟩:=hg
    obtain ⟨rd,_,hl,_⟩:=zaW I.hok hq ho
    obtain ⟨f0,f1,f2,f3,f4,f5⟩:=hf it (by simp)
    exact Qam (I.ok.hd hc) st rd (by omega) fun h' eb=>⟨rfl,I.turned (t':=s.toks) (fun b o hb e=>eb b o hb e) f0 f1 f3 f4 f5⟩
  self:=fun A i s Q E st hQ=>wpAny_pyIter_keyiter st hQ
noncomputable def iDic (tl:TE):TI:=fun σ H R=>tl σ H fun x H1=>∃ a o kvs,x=.ref a∧H1 a=some (.frz o (.dT kvs))∧R (Itd a o) H1
theorem qb2 {X:Cx} {tg l:Expr} {tl:TE} (hl:PE X l tl):PI X tg l (iDic tl):=by
  intro pins s σ H R I h
  refine thn (hl pins s σ H _ I h) fun v s1 ⟨x,H1,I1,r1,q1⟩=>?_
  obtain ⟨a,o,kvs,e,hq,q⟩:=q1
  subst e
  cases r1
  obtain ⟨g,_,_,_,_,o',es,ep,e1,_,e3,_⟩:=I1.hok a _ hq
  rw [g] at e1; cases e1
  obtain ⟨rd,hs,hl',_⟩:=zaW I1.hok hq e3
  refine zaU hs rd ?_
  refine ⟨s1.heap.objs.size,[s1.heap.objs.size],_,_,H1,rfl,I1.kept (t':=s1.toks) fun b o e=>Heap.get?_push_of_some _ e,zbd e3 a _ (Nat.ne_of_lt (Heap.lt_size g)),⟨_,Heap.get?_push_size _ rfl,rfl,rfl⟩,fun b hb=>?_,q⟩
  obtain rfl:=List.mem_singleton.mp hb
  exact I1.fpOk (Nat.le_refl _) (I1.hok.fresh (Nat.le_refl _))
theorem ybD {X:Cx} {e:Expr} {te:TE} (he:PE X e te):PE X e (fun σ H Q=>te σ H fun x H1=>∃ a kvs,x=.ref a∧H1 a=some (.dT kvs)∧∀ o,Q x (upd H1 a (.frz o (.dT kvs)))):=by
  intro pins s σ H Q I h
  refine thn (he pins s σ H _ I h) fun v s1 ⟨x,H1,I1,r1,a,kvs,ex,ha,q⟩=>?_
  obtain ⟨z,y,xs,r,o,es,ep,e1,e2⟩:=I1.hok a _ ha
  have ne:∀ b u,H1 b=some u→u≠.dT kvs→b≠a:=fun b u e n z=>by rw [z,ha] at e; cases e; exact n rfl
  refine ⟨x,upd H1 a (.frz o (.dT kvs)),?_,r1,q o⟩
  have hk:HOk X.prog X.w (upd H1 a (.frz o (.dT kvs))) s1.heap:=fun b u e=>by
    by_cases hb:b=a
    · subst hb
      rw [yd] at e; cases e
      refine ⟨e1,?_⟩
      exact (I1.hok b _ ha).stay (fun c v _ q=>q) (fun c z=>by rw [Zb (ne c _ z fun q=>nomatch q)]; exact z) fun c xs z=>by rw [Zb (ne c _ z fun q=>nomatch q)]; exact z
    · rw [Zb hb] at e
      exact (I1.hok b u e).stay (fun c v _ q=>q) (fun c z=>by rw [Zb (ne c _ z fun q=>nomatch q)]; exact z) fun c xs z=>by rw [Zb (ne c _ z fun q=>nomatch q)]; exact z
  have:=I1.un (t':=s1.toks) (h':=s1.heap) (H':=upd H1 a (.frz o (.dT kvs))) ⟨fun b o e _ _ _=>e,fun b o e _ _ _=>⟨o.slots,e⟩,fun b o e n _=>by rw [Zb fun z=>by rw [z,ha] at n; cases n]; exact n,fun b o e _=>⟨o,e⟩,fun b xs e=>by rw [Zb (ne b _ e fun q=>nomatch q)]; exact e,fun b o u e=>by rw [Zb (ne b _ e fun q=>nomatch q)]; exact e,fun b ps e=>⟨#[],by rw [Zb (ne b _ e fun q=>nomatch q),e]; simp⟩⟩ hk
  exact this
end L3
end
section
namespace MP
open PySem
inductive FV where
  | non | bl (b:Bool) | int (i:Int) | str (s:Str)
  | tup (xs:List FV) | lst (xs:List FV) | obj (c:String) (ns:List String) (vs:List FV) | scr (ns:List Int) | tab (kvs:List ((Int×Int)×Int))
inductive MV where
  | f (x:FV) | ref (a:Nat) | tup (xs:List MV) | exc (c:String)
inductive Cell where
  | lst (xs:List MV) | obj (c:String) (fs:List (String×MV)) | dic (ks:List Int) | tab (kvs:List ((Int×Int)×Int)) | code | dead
noncomputable abbrev MH:=List Cell
noncomputable abbrev MSt:=List (Option MV)
inductive R (α:Type) where
  | ok (x:α) (h:MH) | exc (c:String) (h:MH) | stuck
noncomputable abbrev RD {γ δ:Sort _} (_k:γ→δ) (τ:Type):Type:=τ
namespace R
noncomputable def bind {α β:Type} (r:R α) (k:α→MH→R β):RD k (R β):=match r with
  | .ok x h=>k x h
  | .exc c h=>.exc c h
  | .stuck=>.stuck
variable {α β:Type}
@[simp] theorem bind_ok {x:α} {h:MH} {k:α→MH→R β}:(R.ok x h).bind k=k x h:=id rfl
@[simp] theorem bind_exc {c:String} {h:MH} {k:α→MH→R β}:(R.exc c h:R α).bind k=.exc c h:=id rfl
@[simp] theorem bind_stuck {k:α→MH→R β}:(R.stuck:R α).bind k=.stuck:=id rfl
end R
noncomputable def opt {α β:Type} (o:Option α) (k:α→R β):RD k (R β):=match o with
  | some x=>k x
  | none=>.stuck
@[simp] theorem Zf {α β:Type} {x:α} {k:α→R β}:opt (some x) k=k x:=id rfl
@[simp] theorem opt_none {α β:Type} {k:α→R β}:opt none k=.stuck:=id rfl
noncomputable def Qt:MV→Bool
  | .f .non=>true
  | _=>false
noncomputable def Qh:List MV→Option (List FV)
  | []=>some []
  | .f x::r=>(Qh r).map (x::·)
  | _::_=>none
noncomputable def Zg (xs:List MV):MV:=match Qh xs with
  | some ys=>.f (.tup ys)
  | none=>.tup xs
noncomputable def Zq (fz:Bool) (xs:List MV) (h:MH):R MV:=match fz with
  | true=>opt (Qh xs) fun ys=>.ok (.f (.lst ys)) h
  | false=>.ok (.ref h.length) (h++[.lst xs])
noncomputable def ze (h:MH) (a:Nat):Option (List MV):=match h[a]? with
  | some (.lst xs)=>some xs
  | _=>none
noncomputable def yb (h:MH):MV→Option (List MV)
  | .f (.tup xs)=>some (xs.map .f)
  | .f (.lst xs)=>some (xs.map .f)
  | .f (.scr ns)=>some (ns.map fun i=>.f (.int i))
  | .tup xs=>some xs
  | .ref a=>ze h a
  | _=>none
noncomputable def listOf (h:MH):MV→Option (List MV)
  | .f (.lst xs)=>some (xs.map .f)
  | .ref a=>ze h a
  | _=>none
noncomputable def Yk:MV→Option (List MV)
  | .f (.tup xs)=>some (xs.map .f)
  | .tup xs=>some xs
  | _=>none
noncomputable def qc:MV→Option Int
  | .f (.int i)=>some i
  | _=>none
noncomputable def yB:MV→Option Bool
  | .f (.bl b)=>some b
  | _=>none
@[simp] noncomputable def yf:List MV→Option (List Int)
  | []=>some []
  | .f (.int i)::r=>(yf r).map (i::·)
  | _::_=>none
@[simp] noncomputable def ZaL:List MV→Option (List Bool)
  | []=>some []
  | .f (.bl i)::r=>(ZaL r).map (i::·)
  | _::_=>none
noncomputable def Yj (h:MH):Nat→MV→Option FV
  | 0,_=>none
  | _ + 1,.f x=>some x
  | n + 1,.tup xs=>(xs.mapM (Yj h n)).map .tup
  | n + 1,.ref a=>(ze h a).bind fun xs=>(xs.mapM (Yj h n)).map .lst
  | _ + 1,.exc _=>none
noncomputable def ZD (h:MH) (v:MV):Option FV:=Yj h 5 v
noncomputable def Qi (h:MH):Nat→MV→List Nat
  | 0,_=>[]
  | _ + 1,.f _=>[]
  | n + 1,.tup xs=>xs.flatMap (Qi h n)
  | n + 1,.ref a=>a::((ze h a).getD []).flatMap (Qi h n)
  | _ + 1,.exc _=>[]
noncomputable def kill (as:List Nat) (h:MH):MH:=h.mapIdx fun i c=>if i∈as then .dead else c
noncomputable def qB (v:MV) (h:MH):R MV:=opt (ZD h v) fun x=>.ok (.f x) (kill (Qi h 5 v) h)
noncomputable def sOk (x:Str):Bool:=x.cps.all (· < 0x110000)
noncomputable def isD:Nat→FV→Bool
  | _ + 1,.non=>true
  | _ + 1,.bl _=>true
  | _ + 1,.int _=>true
  | _ + 1,.str s=>sOk s
  | n + 1,.tup xs=>xs.all (isD n)
  | n + 1,.lst xs=>xs.all (isD n)
  | _,_=>false
mutual
noncomputable def eqD:FV→FV→Bool
  | .non,.non=>true
  | .bl a,.bl b=>a == b
  | .bl a,.int j=>(if a then 1 else 0) == j
  | .int i,.bl b=>i == (if b then 1 else 0)
  | .int a,.int b=>a == b
  | .str a,.str b=>a == b
  | .tup xs,.tup ys=>Yap xs ys
  | .lst xs,.lst ys=>Yap xs ys
  | _,_=>false
noncomputable def Yap:List FV→List FV→Bool
  | [],[]=>true
  | x::xs,y::ys=>eqD x y&&Yap xs ys
  | _,_=>false
end
noncomputable def eqF (x y:FV):Option Bool:=if isD 8 x=true∧isD 8 y=true then some (eqD x y) else none
noncomputable def inF (x:FV) (ys:List FV):Option Bool:=if isD 8 x=true∧ys.all (isD 8)=true then some (ys.any fun y=>eqD y x) else none
inductive BO where
  | add | sub | mul | fdiv | mod | pow
inductive CO where
  | lt | le | gt | ge | eq | ne | inn | nin
noncomputable def big:Nat:=2 ^ 4096
noncomputable def Zw (i j:Int):Prop:=i.natAbs < 2 ^ 64∨j.natAbs < 2 ^ 64∨(i.natAbs < big∧j.natAbs < big)
noncomputable def zau (i j:Int):Prop:=0 < j∧(j < 1073741824∨j.natAbs < big)
open Classical in
noncomputable def ZB:BO→Int→Int→Option Int
  | .add,i,j=>some (i + j)
  | .sub,i,j=>some (i - j)
  | .mul,i,j=>if Zw i j then some (i * j) else none
  | .fdiv,i,j=>if zau i j then some (i / j) else none
  | .mod,i,j=>if 0 < j then some (i % j) else none
  | .pow,i,j=>if 0≤j∧j≤1000000∧i.natAbs < 2 ^ 64 then some (i ^ j.toNat) else none
noncomputable def sizeL:Nat:=4194304
open Classical in
noncomputable def zf (fz:Bool) (op:BO) (x y:MV) (h:MH):R MV:=match qc x,qc y with
  | some i,some j=>opt (ZB op i j) fun k=>.ok (.f (.int k)) h
  | none,some j=>match op with
    | .mul=>opt (listOf h x) fun xs=>if -(2 ^ 63)≤j∧j < 2 ^ 63∧xs.length * j.toNat≤sizeL then Zq fz (List.replicate j.toNat xs).flatten h else .stuck
    | _=>.stuck
  | none,none=>match op with
    | .add=>match Yk x,Yk y with
      | some xs,some ys=>if xs≠[]∧xs.length + ys.length≤sizeL then .ok (Zg (xs++ys)) h else .stuck
      | _,_=>opt (listOf h x) fun xs=>opt (listOf h y) fun ys=>if xs.length + ys.length≤sizeL then Zq fz (xs++ys) h else .stuck
    | _=>.stuck
  | _,_=>.stuck
noncomputable def zP:CO→Int→Int→Option Bool
  | .lt,i,j=>some (decide (i < j))
  | .le,i,j=>some (decide (i≤j))
  | .gt,i,j=>some (decide (j < i))
  | .ge,i,j=>some (decide (j≤i))
  | _,_,_=>none
noncomputable def qx (op:CO) (x y:MV) (h:MH):Option Bool:=match op with
  | .eq=>(ZD h x).bind fun a=>(ZD h y).bind fun b=>eqF a b
  | .ne=>(ZD h x).bind fun a=>(ZD h y).bind fun b=>(eqF a b).map (!·)
  | .inn=>(ZD h x).bind fun a=>(yb h y).bind fun ys=>(ys.mapM (ZD h)).bind fun bs=>inF a bs
  | .nin=>(ZD h x).bind fun a=>(yb h y).bind fun ys=>(ys.mapM (ZD h)).bind fun bs=>(inF a bs).map (!·)
  | op=>(qc x).bind fun i=>(qc y).bind fun j=>zP op i j
noncomputable def ixM (n:Nat) (i:Int):Option Nat:=if 0≤i then (if i < n then some i.toNat else none) else if -(n:Int)≤i then some (i + n).toNat else none
noncomputable def atM (xs:List MV) (i:Int):Option MV:=(ixM xs.length i).bind fun j=>xs[j]?
noncomputable def Zak (n d:Nat):Option Int→Nat
  | none=>d
  | some i=>if i < 0 then (i + (n:Int)).toNat else min i.toNat n
noncomputable def yW (xs:List MV) (lo hi:Option Int):List MV:=(xs.drop (Zak xs.length 0 lo)).take (Zak xs.length xs.length hi - Zak xs.length 0 lo)
noncomputable def Y0 (fz:Bool) (x:MV) (lo hi:Option Int) (h:MH):R MV:=match Yk x with
  | some xs=>.ok (Zg (yW xs lo hi)) h
  | none=>opt (yb h x) fun xs=>Zq fz (yW xs lo hi) h
inductive Tg where
  | nm (i:Nat) | tp (ts:List Tg)
inductive ME where
  | var (i:Nat) | cI (i:Int) | cB (b:Bool) | cN | cS (s:Str)
  | glob (x:String)
  | bin (fz:Bool) (op:BO) (a b:ME) | neg (a:ME)
  | cmp (op:CO) (a b:ME) | chain (op op':CO) (a b c:ME)
  | isN (a:ME) | notN (a:ME)
  | and (es:List ME) | or (es:List ME) | not (a:ME) | ite (c a b:ME)
  | tup (es:List ME) | lst (fz:Bool) (es:List ME)
  | sub (a i:ME) | slice (fz:Bool) (a:ME) (lo hi:Option ME)
  | fld (a:ME) (n:String)
  | call (f:String) (es:List ME) | make (fz:Bool) (c:String) (es:List ME) | meth (o:ME) (m:String) (es:List ME)
  | blt (fz:Bool) (n:String) (es:List ME)
  | isI (a:ME) (t:String)
  | isX (a:ME) (t:String)
  | dset2 (a b:ME) | srtK (a:ME) | dNew | dGet (a k d:ME) | nearK (a b:ME) | dSub (a k:ME) | frzT (a:ME)
  | callD (f:String) (es:List ME) (ds:List Int)
  | revL (fz:Bool) (a:ME)
  | lm (m:String) (o:ME) (es:List ME)
  | comp (fz:Bool) (elt:ME) (tg:Tg) (it:String) (src:List ME) (cond:Option ME) (ncv:Nat) (js:List Nat)
  | frz (e:ME)
inductive MS where
  | set (tg:Tg) (e:ME)
  | setSub (o i e:ME)
  | setFld (o:ME) (n:String) (e:ME)
  | putT (o k:ME) | putD (o k e:ME)
  | expr (e:ME)
  | ret (e:ME) | retN
  | ite (c:ME) (a b:List MS)
  | for_ (tg:Tg) (it:String) (src:List ME) (body:List MS)
  | while_ (c:ME) (body:List MS)
  | raise (c:String) (es:List ME)
  | tryW (body:List MS) (ei dst:Nat) (word:String)
  | tryK (body:List MS) (ei dst:Nat)
  | brk | cnt | pass
  | frzS (i:Nat)
structure MDef where
  np:Nat
  ns:Nat
  body:List MS
structure Prog where
  defs:String→Option MDef
  globs:String→Option FV
  meths:String→String→Option String
  subs:String→String→Option Bool
  fok:String→String→Bool
  excs:String→Bool
  word:String→String→Option Str
  words:String→Bool
  xsubs:String→String→Option Bool:=fun _ _=>none
  xcls:String→Bool:=fun _=>false
  xt:Bool:=false
  dfl:String→List Int→Bool:=fun _ _=>false
  mk0:String→Bool:=fun _=>false
  turns:Nat
@[simp] noncomputable def zaj (n:String):List String→List FV→Option FV
  | m::ns,v::vs=>if n=m then some v else zaj n ns vs
  | _,_=>none
noncomputable def YaL (ok:String→String→Bool) (n:String) (v:MV) (h:MH):Option MV:=match v with
  | .f (.obj c ns vs)=>if ok c n=true then (zaj n ns vs).map .f else none
  | .ref a=>match h[a]? with
    | some (.obj c fs)=>if ok c n=true then fs.lookup n else none
    | _=>none
  | _=>none
noncomputable def clsM (m:String) (v:MV) (h:MH):Option String:=match v with
  | .f (.obj c ns _)=>if m∈ns then none else some c
  | .ref a=>match h[a]? with
    | some (.obj c fs)=>if m∈fs.map Prod.fst then none else some c
    | _=>none
  | _=>none
noncomputable def YbQ:MV→Option String
  | .exc c=>some c
  | _=>none
@[simp] theorem Yce (c:String):YbQ (.exc c)=some c:=rfl
noncomputable def YU (sub:String→String→Option Bool) (h:MH) (v:MV) (t:String):Option Bool:=match v with
  | .f .non=>some false
  | .f (.bl _)=>some (decide (t="bool") || decide (t="int"))
  | .f (.int _)=>some (decide (t="int"))
  | .f (.str _)=>some (decide (t="str"))
  | .f (.tup _)=>some (decide (t="tuple"))
  | .f (.tab _)=>none
  | .f (.lst _)=>some (decide (t="list"))
  | .f (.obj c _ _)=>sub c t
  | .f (.scr _)=>none
  | .tup _=>some (decide (t="tuple"))
  | .ref a=>match h[a]? with
    | some (.lst _)=>some (decide (t="list"))
    | some (.obj c _)=>sub c t
    | _=>none
  | .exc _=>none
noncomputable def lmC (x:MV) (h:MH):Option (List MV):=match x with
  | .ref a=>ze h a
  | _=>none
noncomputable def ZaM (xs:List MV) (i:Int) (y:MV):List MV:=let k:=Zak xs.length 0 (some i); xs.take k++y::xs.drop k
noncomputable def qe (h:MH) (a:Nat) (xs:List MV):MH:=h.set a (.lst xs)
open Classical in
noncomputable def lmV (m:String) (o:MV) (as:List MV) (h:MH):R MV:=match o with
  | .ref a=>opt (ze h a) fun xs=>match m,as with
    | "append",[y]=>if xs.length < sizeL then .ok (.f .non) (qe h a (xs++[y])) else .stuck
    | "extend",[z]=>opt (listOf h z) fun ys=>if xs.length + ys.length≤sizeL then .ok (.f .non) (qe h a (xs++ys)) else .stuck
    | "insert",[u,y]=>opt (qc u) fun i=>if xs.length < sizeL∧-(2 ^ 63)≤i∧i < 2 ^ 63 then .ok (.f .non) (qe h a (ZaM xs i y)) else .stuck
    | "reverse",[]=>.ok (.f .non) (qe h a xs.reverse)
    | "clear",[]=>.ok (.f .non) (qe h a [])
    | "pop",[]=>opt (xs[xs.length - 1]?) fun y=>.ok y (qe h a (xs.take (xs.length - 1)))
    | "pop",[u]=>opt (qc u) fun i=>opt (ixM xs.length i) fun k=>opt (xs[k]?) fun y=>if -(2 ^ 63)≤i∧i < 2 ^ 63 then .ok y (qe h a (xs.take k++xs.drop (k + 1))) else .stuck
    | _,_=>.stuck
  | _=>.stuck
noncomputable def zam:Int→List Int→Int
  | m,[]=>m
  | m,x::r=>zam (if x < m then x else m) r
noncomputable def Zap:Int→List Int→Int
  | m,[]=>m
  | m,x::r=>Zap (if x > m then x else m) r
noncomputable def Yv (fz:Bool) (n:String) (as:List MV) (h:MH):R MV:=match n,as with
  | "len",[v]=>opt (yb h v) fun xs=>.ok (.f (.int xs.length)) h
  | "sum",[v]=>opt ((yb h v).bind yf) fun xs=>.ok (.f (.int xs.sum)) h
  | "all",[v]=>opt ((yb h v).bind ZaL) fun xs=>.ok (.f (.bl (xs.all id))) h
  | "min",[v]=>opt ((yb h v).bind yf) fun xs=>match xs with | []=>.stuck | x::r=>.ok (.f (.int (zam x r))) h
  | "max",[v]=>opt ((yb h v).bind yf) fun xs=>match xs with | []=>.stuck | x::r=>.ok (.f (.int (Zap x r))) h
  | "min",[u,v]=>opt (qc u) fun i=>opt (qc v) fun j=>.ok (.f (.int (if j < i then j else i))) h
  | "max",[u,v]=>opt (qc u) fun i=>opt (qc v) fun j=>.ok (.f (.int (if j > i then j else i))) h
  | "abs",[v]=>opt (qc v) fun i=>.ok (.f (.int (if i < 0 then -i else i))) h
  | "int",[v]=>match yB v with
    | some b=>.ok (.f (.int (if b then 1 else 0))) h
    | none=>opt (qc v) fun i=>.ok (.f (.int i)) h
  | "tuple",[v]=>opt (yb h v) fun xs=>.ok (Zg xs) h
  | "list",[v]=>opt (yb h v) fun xs=>Zq fz xs h
  | "divmod",[u,v]=>opt (qc u) fun i=>opt (qc v) fun j=>if 0 < j∧j < 1073741824 then .ok (.f (.tup [.int (i / j),.int (i % j)])) h else .stuck
  | _,_=>.stuck
noncomputable def qJ (ns:List Int):List Int:=ns.mergeSort (fun a b=>decide (a≤b))
theorem zaN:∀ {a b:List Int},a.Perm b→a.Pairwise (·≤·)→b.Pairwise (·≤·)→a=b
  | [],b,p,_,_=>(List.Perm.nil_eq p)
  | x::a,b,p,h,k=>by
    cases b with
    | nil=>exact absurd p.symm.nil_eq (by simp)
    | cons y b =>
      rw [List.pairwise_cons] at h k
      have e:x=y:=by
        have h1:x∈y::b:=p.mem_iff.mp (by simp)
        have h2:y∈x::a:=p.mem_iff.mpr (by simp)
        rcases List.mem_cons.mp h1 with e | m1
        · exact e
        · rcases List.mem_cons.mp h2 with e | m2
          · exact e.symm
          · have:=h.1 y m2; have:=k.1 x m1; omega
      subst e
      rw [zaN (List.Perm.cons_inv p) h.2 k.2]
theorem qP (ns:List Int):(qJ ns).Perm ns:=List.mergeSort_perm _ _
theorem zaL (ns:List Int):(qJ ns).Pairwise (·≤·):=by
  have:=List.pairwise_mergeSort (le:=fun a b:Int=>decide (a≤b)) (by intro a b c h k; simp at *; omega) (by intro a b; simp; omega) ns
  exact this.imp (by intro a b h; simpa using h)
theorem Qbm {ns ns':List Int} (p:ns'.Perm ns) (h:ns'.Pairwise (·≤·)):ns'=qJ ns:=zaN (p.trans (qP ns).symm) h (zaL ns)
noncomputable def zu (ks:List Int) (k:Int):List Int:=if k∈ks then ks else ks++[k]
noncomputable def Q5 (h:MH) (v:MV):Option (List Int):=match v with
  | .ref a=>match h[a]? with
    | some (.dic ks)=>some ks
    | _=>none
  | _=>none
noncomputable def dset2 (n:Nat) (x y:MV) (h:MH):R MV:=opt (qc x) fun i=>opt (qc y) fun j=>opt (Q5 h (.ref n)) fun ks=>if ks=[] then .ok (.ref n) (h.set n (.dic (zu (zu [] i) j))) else .stuck
noncomputable def srtK (v:MV) (h:MH):R MV:=opt (Q5 h v) fun ks=>if ks.length < 64 then .ok (.ref h.length) (h++[.lst ((qJ ks).map fun i=>.f (.int i))]) else .stuck
noncomputable def ql (h:MH) (v:MV):Option (List ((Int×Int)×Int)):=match v with
  | .ref a=>match h[a]? with
    | some (.tab kvs)=>some kvs
    | _=>none
  | .f (.tab kvs)=>some kvs
  | _=>none
noncomputable def Zs (v:MV):Option (Int×Int):=match Yk v with
  | some [.f (.int a),.f (.int b)]=>some (a,b)
  | _=>none
noncomputable def Yx (kvs:List ((Int×Int)×Int)) (k:Int×Int) (v:Int):List ((Int×Int)×Int) :=
  if (kvs.any fun p=>decide (p.1=k))=true then kvs.map (fun p=>if p.1=k then (p.1,v) else p) else kvs++[(k,v)]
noncomputable def zK (kvs:List ((Int×Int)×Int)) (k:Int×Int):Option Int:=(kvs.find? fun p=>decide (p.1=k)).map Prod.snd
noncomputable def zaq (x y z:MV) (h:MH):R MV:=opt (ql h x) fun kvs=>opt (Zs y) fun k=>.ok (match zK kvs k with | some v=>.f (.int v) | none=>z) h
noncomputable def Ybk (x:MV) (h:MH):R MV:=match x with
  | .ref i=>opt (ql h (.ref i)) fun kvs=>.ok (.f (.tab kvs)) (h.set i .dead)
  | _=>.stuck
noncomputable def Zm (w:Int) (n:Int) (r:List Int):Int:=r.foldl (fun b k=>if (if w - k < 0 then -(w - k) else w - k) < (if w - b < 0 then -(w - b) else w - b) then k else b) n
noncomputable def ZO (x y:MV) (h:MH):R MV:=opt (qc x) fun w=>opt (yb h y) fun vs=>opt (yf vs) fun ns=>match ns with
  | n::r=>match (h[0]?:Option Cell) with
    | some .code=>.ok (.f (.int (Zm w n r))) h
    | _=>.stuck
  | []=>.stuck
mutual
@[simp] noncomputable def YC:Tg→MV→MSt→Option MSt
  | .nm i,v,σ=>some (σ.set i (some v))
  | .tp ts,v,σ=>(Yk v).bind fun vs=>zy ts vs σ
@[simp] noncomputable def zy:List Tg→List MV→MSt→Option MSt
  | [],[],σ=>some σ
  | t::ts,v::vs,σ=>(YC t v σ).bind fun σ'=>zy ts vs σ'
  | _,_,_=>none
end
noncomputable abbrev yz:=List (Nat×List MV)
noncomputable def GuardOk (g:yz) (h:MH):Prop:=∀ p∈g,ze h p.1=some p.2
noncomputable def Zc (h:MH):MV→yz
  | .ref a=>match ze h a with
    | some xs=>[(a,xs)]
    | none=>[]
  | _=>[]
noncomputable def rlen (lo hi st:Int):Nat:=if lo < hi then ((hi - lo - 1) / st + 1).toNat else 0
noncomputable def itV (it:String) (as:List MV) (h:MH):Option (List MV×yz):=match it,as with
  | "seq",[v]=>(yb h v).map fun xs=>(xs,Zc h v)
  | "range",[u]=>(qc u).bind fun n=>if -(2 ^ 62)≤n∧n < 2 ^ 62 then some ((List.range n.toNat).map fun (k:Nat)=>.f (.int k),[]) else none
  | "range",[u,v]=>(qc u).bind fun a=>(qc v).bind fun b=>if -(2 ^ 62)≤a∧a < 2 ^ 62∧-(2 ^ 62)≤b∧b < 2 ^ 62 then some ((List.range (b - a).toNat).map fun (k:Nat)=>.f (.int (a + k)),[]) else none
  | "range",[u,v,w]=>(qc u).bind fun a=>(qc v).bind fun b=>(qc w).bind fun s=>if -(2 ^ 30)≤a∧a < 2 ^ 30∧-(2 ^ 30)≤b∧b < 2 ^ 30∧0 < s∧s < 2 ^ 30 then some ((List.range (rlen a b s)).map fun (k:Nat)=>.f (.int (a + k * s)),[]) else none
  | "zip",[u,v]=>(yb h u).bind fun xs=>(yb h v).map fun ys=>((xs.zip ys).map fun p=>Zg [p.1,p.2],Zc h u++Zc h v)
  | "keys",[.f (.tab kvs)]=>some (kvs.map fun kv=>.f (.tup [.int kv.1.1,.int kv.1.2]),[])
  | "enumerate",[v]=>(yb h v).map fun xs=>(xs.mapIdx fun k x=>Zg [.f (.int k),x],Zc h v)
  | _,_=>none
inductive RS where
  | next (σ:MSt) (h:MH) | ret (v:MV) (h:MH) | brk (σ:MSt) (h:MH) | cnt (σ:MSt) (h:MH) | exc (c:String) (h:MH) | stuck
namespace RS
noncomputable def bind (r:RS) (k:MSt→MH→RS):RD k RS:=match r with
  | .next σ h=>k σ h
  | .ret v h=>.ret v h
  | .brk σ h=>.brk σ h
  | .cnt σ h=>.cnt σ h
  | .exc c h=>.exc c h
  | .stuck=>.stuck
@[simp] theorem bind_next {σ:MSt} {h:MH} {k:MSt→MH→RS}:(RS.next σ h).bind k=k σ h:=id rfl
@[simp] theorem bind_ret {v:MV} {h:MH} {k:MSt→MH→RS}:(RS.ret v h).bind k=.ret v h:=id rfl
@[simp] theorem bind_brk {σ:MSt} {h:MH} {k:MSt→MH→RS}:(RS.brk σ h).bind k=.brk σ h:=id rfl
@[simp] theorem bind_cnt {σ:MSt} {h:MH} {k:MSt→MH→RS}:(RS.cnt σ h).bind k=.cnt σ h:=id rfl
@[simp] theorem bind_exc {c:String} {h:MH} {k:MSt→MH→RS}:(RS.exc c h).bind k=.exc c h:=id rfl
@[simp] theorem bind_stuck {k:MSt→MH→RS}:(RS.stuck).bind k=.stuck:=id rfl
noncomputable def turn (r:RS) (k:MSt→MH→RS):RD k RS:=match r with
  | .next σ h=>k σ h
  | .cnt σ h=>k σ h
  | .brk σ h=>.next σ h
  | .ret v h=>.ret v h
  | .exc c h=>.exc c h
  | .stuck=>.stuck
@[simp] theorem turn_next {σ:MSt} {h:MH} {k:MSt→MH→RS}:(RS.next σ h).turn k=k σ h:=id rfl
@[simp] theorem turn_cnt {σ:MSt} {h:MH} {k:MSt→MH→RS}:(RS.cnt σ h).turn k=k σ h:=id rfl
@[simp] theorem turn_brk {σ:MSt} {h:MH} {k:MSt→MH→RS}:(RS.brk σ h).turn k=.next σ h:=id rfl
@[simp] theorem turn_ret {v:MV} {h:MH} {k:MSt→MH→RS}:(RS.ret v h).turn k=.ret v h:=id rfl
@[simp] theorem turn_exc {c:String} {h:MH} {k:MSt→MH→RS}:(RS.exc c h).turn k=.exc c h:=id rfl
@[simp] theorem yb2 {k:MSt→MH→RS}:(RS.stuck).turn k=.stuck:=id rfl
end RS
noncomputable def RS.caught (k:String→MH→RS) (r:RS):RD k RS:=match r with
  | .exc c h=>k c h
  | r=>r
noncomputable def R.st {α:Type} (r:R α) (k:α→MH→RS):RD k RS:=match r with
  | .ok x h=>k x h
  | .exc c h=>.exc c h
  | .stuck=>.stuck
@[simp] theorem R.st_ok {α:Type} {x:α} {h:MH} {k:α→MH→RS}:(R.ok x h).st k=k x h:=id rfl
@[simp] theorem R.st_exc {α:Type} {c:String} {h:MH} {k:α→MH→RS}:(R.exc c h:R α).st k=.exc c h:=id rfl
@[simp] theorem R.st_stuck {α:Type} {k:α→MH→RS}:(R.stuck:R α).st k=.stuck:=id rfl
noncomputable def Zo {α:Type} (o:Option α) (k:α→RS):RD k RS:=match o with
  | some x=>k x
  | none=>.stuck
@[simp] theorem Qaq {α:Type} {x:α} {k:α→RS}:Zo (some x) k=k x:=id rfl
@[simp] theorem zcc {α:Type} {k:α→RS}:Zo none k=.stuck:=id rfl
open Classical in
noncomputable def Zu (g:yz) (bd:MV→MSt→MH→RS):List MV→MSt→MH→RS
  | [],σ,h=>if GuardOk g h then .next σ h else .stuck
  | x::r,σ,h=>if GuardOk g h then (bd x σ h).turn fun σ1 h1=>Zu g bd r σ1 h1 else .stuck
open Classical in
noncomputable def Qn (g:yz) (bd:MV→MSt→MH→R (Option MV×MSt)):List MV→List MV→MSt→MH→R (List MV)
  | [],acc,σ,h=>if GuardOk g h then .ok acc h else .stuck
  | x::r,acc,σ,h=>if GuardOk g h∧acc.length < sizeL then (bd x σ h).bind fun p h1=>Qn g bd r (match p.1 with | some y=>acc++[y] | none=>acc) p.2 h1 else .stuck
noncomputable def stM (ncv:Nat) (js:List Nat) (σ:MSt):MSt:=List.replicate ncv none++js.map fun j=>(σ[j]?).join
noncomputable def Qbh (c:MSt→MH→R MV) (bd:MSt→MH→RS):Nat→MSt→MH→RS
  | 0,_,_=>.stuck
  | n + 1,σ,h=>(c σ h).st fun v h1=>Zo (yB v) fun b=>if b=true then (bd σ h1).turn fun σ2 h2=>Qbh c bd n σ2 h2 else .next σ h1
noncomputable def calm {α:Type} (r:R α):R α:=match r with
  | .ok x h=>.ok x h
  | _=>.stuck
@[simp] theorem calm_ok {α:Type} {x:α} {h:MH}:calm (R.ok x h)=.ok x h:=id rfl
noncomputable def Zi (tg:Tg) (ex:MSt→MH→RS):MV→MSt→MH→RS:=fun x σ h=>Zo (YC tg x σ) fun σ2=>ex σ2 h
noncomputable def qq (tg:Tg) (tc:MSt→MH→R Bool) (te:MSt→MH→R MV):MV→MSt→MH→R (Option MV×MSt):=fun x σ h =>
  opt (YC tg x σ) fun σ2=>(calm (tc σ2 h)).bind fun k h2=>if k=true then (calm (te σ2 h2)).bind fun y h3=>.ok (some y,σ2) h3 else .ok (none,σ2) h2
noncomputable def FlatC:Cell→Prop
  | .lst xs=>∃ ys:List FV,xs=ys.map MV.f
  | .obj _ fs=>∃ ys:List (String×FV),fs=ys.map fun p=>(p.1,MV.f p.2)
  | .dic _=>True
  | .tab _=>True
  | .code=>True
  | .dead=>True
noncomputable def TrOk (h h':MH):Prop:=h.length≤h'.length∧∀ i c,i < h.length→h'[i]?=some c→h[i]?=some c∨FlatC c
open Classical in
noncomputable def qg (h:MH) (v:MV) (h':MH):R MV:=if TrOk h h' then (match v with
  | .f x=>.ok (.f x) (h'.take h.length)
  | .ref a=>if h.length≤a then (match ze h' a with
      | some xs=>match Qh xs with
        | some _=>.ok (.ref h.length) (h'.take h.length++[.lst xs])
        | none=>.ok v h'
      | none=>.ok v h') else .ok v h'
  | v=>.ok v h') else .ok v h'
open Classical in
noncomputable def qK (h:MH) (c:String) (h':MH):R MV:=if TrOk h h' then .exc c (h'.take h.length) else .exc c h'
section
variable (P:Prog) (W:String→List MV→MH→R MV)
open Classical in
noncomputable def Z5 (fz:Bool) (c:String) (as:List MV) (h:MH):R MV :=
  (match P.meths c "__init__" with
    | some f=>W f (.ref h.length::as) (h++[Cell.obj c []])
    | none=>match as with | []=>R.ok (MV.f FV.non) (h++[Cell.obj c []]) | _=>.stuck).bind fun v (h1:MH)=>if Qt v=false then .stuck else
  match fz with
  | true=>match h1[h.length]? with
    | some (Cell.obj c' fs)=>opt (Qh (fs.map Prod.snd)) fun vs=>if TrOk h h1 then R.ok (MV.f (FV.obj c' (fs.map Prod.fst) vs)) (h1.take h.length) else .stuck
    | _=>.stuck
  | false=>R.ok (MV.ref h.length) h1
mutual
@[simp] noncomputable def Za:ME→MSt→MH→R MV
  | .var i,σ,h=>opt ((σ[i]?).join) fun v=>.ok v h
  | .cI i,_,h=>.ok (.f (.int i)) h
  | .cB b,_,h=>.ok (.f (.bl b)) h
  | .cN,_,h=>.ok (.f .non) h
  | .cS s,_,h=>.ok (.f (.str s)) h
  | .glob x,_,h=>opt (P.globs x) fun v=>.ok (.f v) h
  | .bin fz op a b,σ,h=>(Za a σ h).bind fun x h1=>(Za b σ h1).bind fun y h2=>zf fz op x y h2
  | .neg a,σ,h=>(Za a σ h).bind fun x h1=>opt (qc x) fun i=>.ok (.f (.int (-i))) h1
  | .cmp op a b,σ,h=>(Za a σ h).bind fun x h1=>(Za b σ h1).bind fun y h2=>opt (qx op x y h2) fun b=>.ok (.f (.bl b)) h2
  | .chain op op' a b c,σ,h=>(Za a σ h).bind fun x h1=>(Za b σ h1).bind fun y h2=>opt (qx op x y h2) fun k =>
      if k=true then (Za c σ h2).bind fun z h3=>opt (qx op' y z h3) fun k=>.ok (.f (.bl k)) h3 else .ok (.f (.bl false)) h2
  | .isN a,σ,h=>(Za a σ h).bind fun x h1=>.ok (.f (.bl (Qt x))) h1
  | .notN a,σ,h=>(Za a σ h).bind fun x h1=>.ok (.f (.bl (!Qt x))) h1
  | .and es,σ,h=>qo es σ h
  | .or es,σ,h=>Zv es σ h
  | .not a,σ,h=>(Za a σ h).bind fun x h1=>opt (yB x) fun k=>.ok (.f (.bl (!k))) h1
  | .ite c a b,σ,h=>(Za c σ h).bind fun x h1=>opt (yB x) fun k=>if k=true then Za a σ h1 else Za b σ h1
  | .tup es,σ,h=>(Qf es σ h).bind fun xs h1=>.ok (Zg xs) h1
  | .lst fz es,σ,h=>(Qf es σ h).bind fun xs h1=>Zq fz xs h1
  | .sub a i,σ,h=>(Za a σ h).bind fun x h1=>(Za i σ h1).bind fun y h2=>opt (yb h2 x) fun xs=>opt (qc y) fun k=>opt (atM xs k) fun v=>.ok v h2
  | .slice fz a lo hi,σ,h=>(Za a σ h).bind fun x h1=>(QaO lo σ h1).bind fun l h2=>(QaO hi σ h2).bind fun u h3=>Y0 fz x l u h3
  | .fld a n,σ,h=>(Za a σ h).bind fun x h1=>opt (YaL P.fok n x h1) fun v=>.ok v h1
  | .call f es,σ,h=>(Qf es σ h).bind fun xs h1=>W f xs h1
  | .make fz c es,σ,h=>(Qf es σ h).bind fun xs h1=>Z5 P W fz c xs h1
  | .meth o m es,σ,h=>(Za o σ h).bind fun x h1=>opt (clsM m x h1) fun c=>opt (P.meths c m) fun f=>(Qf es σ h1).bind fun xs h2=>W f (x::xs) h2
  | .blt fz n es,σ,h=>(Qf es σ h).bind fun xs h1=>Yv fz n xs h1
  | .isI a t,σ,h=>(Za a σ h).bind fun x h1=>opt (YU P.subs h1 x t) fun k=>.ok (.f (.bl k)) h1
  | .callD f es ds,σ,h=>(Qf es σ h).bind fun xs h1=>W f (xs++ds.map fun i=>.f (.int i)) h1
  | .revL fz a,σ,h=>(Za a σ h).bind fun x h1=>opt (listOf h1 x) fun xs=>Zq fz xs.reverse h1
  | .dset2 a b,σ,h=>(Za a σ (h++[.dic []])).bind fun x h1=>(Za b σ h1).bind fun y h2=>dset2 h.length x y h2
  | .srtK a,σ,h=>(Za a σ h).bind fun x h1=>srtK x h1
  | .dNew,_,h=>.ok (.ref h.length) (h++[.tab []])
  | .dGet a k d,σ,h=>(Za a σ h).bind fun x h1=>opt (ql h1 x) fun _=>(Za k σ h1).bind fun y h2=>(Za d σ h2).bind fun z h3=>zaq x y z h3
  | .dSub a k,σ,h=>(Za a σ h).bind fun x h1=>(Za k σ h1).bind fun y h2=>opt (ql h2 x) fun kvs=>opt (Zs y) fun k=>opt (zK kvs k) fun v=>.ok (.f (.int v)) h2
  | .frzT a,σ,h=>(Za a σ h).bind fun x h1=>Ybk x h1
  | .nearK a b,σ,h=>(Za a σ h).bind fun x h1=>(Za b σ h1).bind fun y h2=>ZO x y h2
  | .isX a t,σ,h=>(Za a σ h).bind fun x h1=>opt (YbQ x) fun c=>opt (P.xsubs c t) fun k=>.ok (.f (.bl k)) h1
  | .lm m o es,σ,h=>(Za o σ h).bind fun x h1=>opt (lmC x h1) fun _=>(Qf es σ h1).bind fun xs h2=>lmV m x xs h2
  | .comp fz elt tg it src cond ncv js,σ,h=>(Qf src σ h).bind fun xs h1=>opt (itV it xs h1) fun p =>
      (Qn p.2 (qq tg (Zau cond) (Za elt)) p.1 [] (stM ncv js σ) h1).bind fun acc h3=>Zq fz acc h3
  | .frz e,σ,h=>(Za e σ h).bind fun x h1=>qB x h1
@[simp] noncomputable def qo:List ME→MSt→MH→R MV
  | [],_,_=>.stuck
  | [e],σ,h=>Za e σ h
  | e::e'::r,σ,h=>(Za e σ h).bind fun x h1=>opt (yB x) fun k=>if k=true then qo (e'::r) σ h1 else .ok (.f (.bl false)) h1
@[simp] noncomputable def Zv:List ME→MSt→MH→R MV
  | [],_,_=>.stuck
  | [e],σ,h=>Za e σ h
  | e::e'::r,σ,h=>(Za e σ h).bind fun x h1=>opt (yB x) fun k=>if k=true then .ok (.f (.bl true)) h1 else Zv (e'::r) σ h1
@[simp] noncomputable def Qf:List ME→MSt→MH→R (List MV)
  | [],_,h=>.ok [] h
  | e::es,σ,h=>(Za e σ h).bind fun x h1=>(Qf es σ h1).bind fun xs h2=>.ok (x::xs) h2
@[simp] noncomputable def QaO:Option ME→MSt→MH→R (Option Int)
  | none,_,h=>.ok none h
  | some e,σ,h=>(Za e σ h).bind fun x h1=>opt (qc x) fun i=>.ok (some i) h1
@[simp] noncomputable def Zau:Option ME→MSt→MH→R Bool
  | none,_,h=>.ok true h
  | some e,σ,h=>(Za e σ h).bind fun x h1=>opt (yB x) fun k=>.ok k h1
end
mutual
@[simp] noncomputable def Qx:MS→MSt→MH→RS
  | .set tg e,σ,h=>(Za P W e σ h).st fun v h1=>Zo (YC tg v σ) fun σ1=>.next σ1 h1
  | .setSub o i e,σ,h=>(Za P W e σ h).st fun v h1=>(Za P W o σ h1).st fun x h2=>(Za P W i σ h2).st fun y h3 =>
      match x with
      | .ref a=>Zo (ze h3 a) fun xs=>Zo (qc y) fun k=>Zo (ixM xs.length k) fun j=>.next σ (qe h3 a (xs.set j v))
      | _=>.stuck
  | .putT o k,σ,h=>(Za P W o σ h).st fun x h1=>(Za P W k σ h1).st fun y h2=>Zo (qc y) fun i=>match x with
    | .ref a=>Zo (Q5 h2 (.ref a)) fun ks=>if ks.length < 1000000 then .next σ (h2.set a (.dic (zu ks i))) else .stuck
    | _=>.stuck
  | .putD o k e,σ,h=>(Za P W e σ h).st fun v h1=>(Za P W o σ h1).st fun x h2=>(Za P W k σ h2).st fun y h3=>Zo (qc v) fun i=>Zo (Zs y) fun k=>match x with
    | .ref a=>Zo (ql h3 (.ref a)) fun kvs=>if kvs.length < 1000000 then .next σ (h3.set a (.tab (Yx kvs k i))) else .stuck
    | _=>.stuck
  | .setFld o n e,σ,h=>(Za P W e σ h).st fun v h1=>(Za P W o σ h1).st fun x h2=>match x with
      | .ref a=>match h2[a]? with
        | some (.obj c fs)=>if P.fok c n=true∧fs.length < 100∧fs.lookup n=none then .next σ (h2.set a (.obj c (fs++[(n,v)]))) else .stuck
        | _=>.stuck
      | _=>.stuck
  | .expr e,σ,h=>(Za P W e σ h).st fun _ h1=>.next σ h1
  | .ret e,σ,h=>(Za P W e σ h).st fun v h1=>.ret v h1
  | .retN,_,h=>.ret (.f .non) h
  | .ite c a b,σ,h=>(Za P W c σ h).st fun v h1=>Zo (yB v) fun k=>if k=true then qb a σ h1 else qb b σ h1
  | .for_ tg it src body,σ,h=>(Qf P W src σ h).st fun xs h1=>Zo (itV it xs h1) fun p =>
      Zu p.2 (Zi tg (qb body)) p.1 σ h1
  | .while_ c body,σ,h=>Qbh (Za P W c) (qb body) P.turns σ h
  | .raise c es,σ,h=>(Qf P W es σ h).st fun _ h1=>.exc c h1
  | .tryW body ei dst word,σ,h=>RS.caught (fun c h1=>Zo (P.word word c) fun s=>if ei < σ.length then .next ((σ.set dst (some (.f (.str s)))).set ei none) h1 else .stuck) (qb body σ h)
  | .tryK body ei dst,σ,h=>RS.caught (fun c h1=>if (P.xsubs c c).isSome=true∧ei < σ.length then .next ((σ.set dst (some (.exc c))).set ei none) h1 else .stuck) (qb body σ h)
  | .brk,σ,h=>.brk σ h
  | .cnt,σ,h=>.cnt σ h
  | .pass,σ,h=>.next σ h
  | .frzS i,σ,h=>Zo ((σ[i]?).join) fun v=>(qB v h).st fun x h1=>.next (σ.set i (some x)) h1
noncomputable def qb:List MS→MSt→MH→RS
  | [],σ,h=>.next σ h
  | s::r,σ,h=>(Qx s σ h).bind (qb r)
end
end
noncomputable def Zd (h:MH) (r:RS):R MV:=match r with
  | .next _ h'=>qg h (.f .non) h'
  | .ret v h'=>qg h v h'
  | .exc c h'=>qK h c h'
  | _=>.stuck
noncomputable def run (P:Prog):Nat→String→List MV→MH→R MV
  | 0,_,_,_=>.stuck
  | n + 1,f,as,h=>opt (P.defs f) fun d=>if as.length=d.np then Zd h (qb P (run P n) d.body (as.map some++List.replicate (d.ns - d.np) none) h) else .stuck
end MP
end
section
namespace MP
open PySem
noncomputable abbrev I (i:Int):MV:=.f (.int i)
noncomputable abbrev B (b:Bool):MV:=.f (.bl b)
@[simp] theorem zaM {α:Type} (g:α→FV):∀ xs:List α,Qh (xs.map fun x=>MV.f (g x))=some (xs.map g)
  | []=>rfl
  | x::r=>by simp [Qh,zaM g r]
@[simp] theorem qar:∀ xs:List FV,Qh (xs.map MV.f)=some xs
  | []=>rfl
  | x::r=>by simp [Qh,qar r]
@[simp] theorem Qcb {α:Type} (g:α→FV) (xs:List α):Qh (xs.map (MV.f∘g))=some (xs.map g):=zaM g xs
@[simp] theorem ya0 {α:Type} (g:α→Int):∀ xs:List α,yf (xs.map fun x=>MV.f (.int (g x)))=some (xs.map g)
  | []=>rfl
  | x::r=>by simp [yf,ya0 g r]
@[simp] theorem Y5:∀ xs:List Int,yf (xs.map (MV.f∘FV.int))=some xs
  | []=>rfl
  | x::r=>by
    show Option.map _ (yf (r.map (MV.f∘FV.int)))=_
    rw [Y5 r]; rfl
@[simp] theorem Ybb {α:Type} (g:α→Bool):∀ xs:List α,ZaL (xs.map fun x=>MV.f (.bl (g x)))=some (xs.map g)
  | []=>rfl
  | x::r=>by simp [ZaL,Ybb g r]
@[simp] theorem Qb3 (xs:List FV):Zg (xs.map MV.f)=.f (.tup xs):=by simp [Zg]
@[simp] theorem yaS {α:Type} (g:α→FV) (xs:List α):Zg (xs.map (MV.f∘g))=.f (.tup (xs.map g)):=by simp [Zg]
@[simp] theorem qcg {α:Type} (g:α→FV) (xs:List α):Zg (xs.map fun x=>MV.f (g x))=.f (.tup (xs.map g)):=by simp [Zg]
@[simp] theorem ycg (x y:FV):Zg [.f x,.f y]=.f (.tup [x,y]):=rfl
@[simp] theorem ycf:Zg []=.f (.tup []):=rfl
@[simp] theorem Ycd (x:FV):Zg [.f x]=.f (.tup [x]):=rfl
@[simp] theorem Zh (xs:List FV) (h:MH):Zq true (xs.map MV.f) h=.ok (.f (.lst xs)) h:=by simp [Zq]
@[simp] theorem Zai {α:Type} (g:α→FV) (xs:List α) (h:MH):Zq true (xs.map (MV.f∘g)) h=.ok (.f (.lst (xs.map g))) h:=by simp [Zq]
@[simp] theorem Yby {α:Type} (g:α→FV) (xs:List α) (h:MH):Zq true (xs.map fun x=>MV.f (g x)) h=.ok (.f (.lst (xs.map g))) h:=by simp [Zq]
@[simp] theorem yby (h:MH):Zq true [] h=.ok (.f (.lst [])) h:=rfl
@[simp] theorem ybl (x:FV) (r:List MV) (h:MH):Zq true (.f x::r) h=opt (Qh r) fun ys=>.ok (.f (.lst (x::ys))) h:=by
  simp only [Zq,Qh]; cases Qh r <;> rfl
@[simp] theorem QaT (xs:List MV) (h:MH):Zq false xs h=.ok (.ref h.length) (h++[.lst xs]):=rfl
@[simp] theorem ybT (P:Prog) (W:String→List MV→MH→R MV) (σ:MSt) (h:MH):qb P W [] σ h=.next σ h:=by simp only [qb]
@[simp] theorem QbP (P:Prog) (W:String→List MV→MH→R MV) (s:MS) (r:List MS) (σ:MSt) (h:MH):qb P W (s::r) σ h=(Qx P W s σ h).bind (qb P W r):=by simp only [qb]
section
variable {h:MH}
@[simp] theorem fldV_obj (ok:String→String→Bool) (n c:String) (ns:List String) (vs:List FV):YaL ok n (.f (.obj c ns vs)) h=if ok c n=true then (zaj n ns vs).map .f else none:=rfl
@[simp] theorem lmC_ref (a:Nat):lmC (.ref a) h=ze h a:=rfl
@[simp] theorem Qa8:Qt (.f .non)=true:=rfl
@[simp] theorem zcd (s:Str):Qt (.f (.str s))=false:=rfl
@[simp] theorem qcf (s:Int):Qt (.f (.int s))=false:=rfl
@[simp] theorem isNon_bl (s:Bool):Qt (.f (.bl s))=false:=rfl
@[simp] theorem Qcd (s:List FV):Qt (.f (.tup s))=false:=rfl
@[simp] theorem qce (s:List FV):Qt (.f (.lst s))=false:=rfl
@[simp] theorem zce (c:String) (ns:List String) (s:List FV):Qt (.f (.obj c ns s))=false:=rfl
@[simp] theorem Zch (s:Nat):Qt (.ref s)=false:=rfl
@[simp] theorem zbU (s:List MV):Qt (.tup s)=false:=rfl
@[simp] theorem yce (xs:List FV):yb h (.f (.tup xs))=some (xs.map .f):=rfl
@[simp] theorem Zcc (xs:List FV):yb h (.f (.lst xs))=some (xs.map .f):=rfl
@[simp] theorem zcg (ns:List Int):yb h (.f (.scr ns))=some (ns.map fun i=>MV.f (.int i)):=rfl
@[simp] theorem Ycc (ns:List Int):Yk (.f (.scr ns))=none:=rfl
@[simp] theorem Qb7 (xs:List MV):yb h (.tup xs)=some xs:=rfl
@[simp] theorem zcf (a:Nat):yb h (.ref a)=ze h a:=rfl
@[simp] theorem YbW (xs:List FV):listOf h (.f (.tup xs))=none:=rfl
@[simp] theorem Yb0 (xs:List FV):listOf h (.f (.lst xs))=some (xs.map .f):=rfl
@[simp] theorem Qb4 (a:Nat):listOf h (.ref a)=ze h a:=rfl
@[simp] theorem Zcf (xs:List FV):Yk (.f (.tup xs))=some (xs.map .f):=rfl
@[simp] theorem zbS (xs:List MV):Yk (.tup xs)=some xs:=rfl
@[simp] theorem Qcc (xs:List FV):Yk (.f (.lst xs))=none:=rfl
@[simp] theorem Zcd (a:Nat):Yk (.ref a)=none:=rfl
@[simp] theorem Ycf (i:Int):qc (.f (.int i))=some i:=rfl
@[simp] theorem ych (xs:List FV):qc (.f (.tup xs))=none:=rfl
@[simp] theorem qcb (xs:List FV):qc (.f (.lst xs))=none:=rfl
@[simp] theorem Ycg (a:Nat):qc (.ref a)=none:=rfl
@[simp] theorem blOf_bl (b:Bool):yB (.f (.bl b))=some b:=rfl
@[simp] theorem zch (i j:Int):zP .lt i j=some (decide (i < j)):=rfl
@[simp] theorem Qcg (i j:Int):zP .le i j=some (decide (i≤j)):=rfl
@[simp] theorem Ych (i j:Int):zP .gt i j=some (decide (j < i)):=rfl
@[simp] theorem ycc (i j:Int):zP .ge i j=some (decide (j≤i)):=rfl
@[simp] theorem cmp_lt (x y:MV):qx .lt x y h=(qc x).bind fun i=>(qc y).bind fun j=>some (decide (i < j)):=rfl
@[simp] theorem cmp_le (x y:MV):qx .le x y h=(qc x).bind fun i=>(qc y).bind fun j=>some (decide (i≤j)):=rfl
@[simp] theorem cmp_gt (x y:MV):qx .gt x y h=(qc x).bind fun i=>(qc y).bind fun j=>some (decide (j < i)):=rfl
@[simp] theorem cmp_ge (x y:MV):qx .ge x y h=(qc x).bind fun i=>(qc y).bind fun j=>some (decide (j≤i)):=rfl
@[simp] theorem yb9 (x:FV):ZD h (.f x)=some x:=rfl
@[simp] theorem cmp_eq_f (x y:FV):qx .eq (.f x) (.f y) h=eqF x y:=rfl
@[simp] theorem cmp_ne_f (x y:FV):qx .ne (.f x) (.f y) h=(eqF x y).map (!·):=rfl
@[simp] theorem isD_non (n:Nat):isD (n + 1) .non=true:=rfl
@[simp] theorem isD_bl (n:Nat) (b:Bool):isD (n + 1) (.bl b)=true:=rfl
@[simp] theorem isD_int (n:Nat) (i:Int):isD (n + 1) (.int i)=true:=rfl
@[simp] theorem isD_str (n:Nat) (s:Str):isD (n + 1) (.str s)=sOk s:=rfl
@[simp] theorem isD_tup (n:Nat) (xs:List FV):isD (n + 1) (.tup xs)=xs.all (isD n):=rfl
@[simp] theorem isD_lst (n:Nat) (xs:List FV):isD (n + 1) (.lst xs)=xs.all (isD n):=rfl
@[simp] theorem eqD_int (i j:Int):eqD (.int i) (.int j)=(i == j):=by simp [eqD]
@[simp] theorem eqD_str (i j:Str):eqD (.str i) (.str j)=(i == j):=by simp [eqD]
@[simp] theorem eqD_tup (xs ys:List FV):eqD (.tup xs) (.tup ys)=Yap xs ys:=by simp [eqD]
@[simp] theorem eqD_lst (xs ys:List FV):eqD (.lst xs) (.lst ys)=Yap xs ys:=by simp [eqD]
@[simp] theorem eqF_int (i j:Int):eqF (.int i) (.int j)=some (i == j):=by simp [eqF]
@[simp] theorem bin_add (fz:Bool) (i j:Int):zf fz .add (.f (.int i)) (.f (.int j)) h=.ok (.f (.int (i + j))) h:=rfl
@[simp] theorem bin_sub (fz:Bool) (i j:Int):zf fz .sub (.f (.int i)) (.f (.int j)) h=.ok (.f (.int (i - j))) h:=rfl
theorem yo (fz:Bool) (i j:Int) (c:Zw i j):zf fz .mul (.f (.int i)) (.f (.int j)) h=.ok (.f (.int (i * j))) h:=by simp [zf,ZB,c]
theorem zg (fz:Bool) (i j:Int) (c:zau i j):zf fz .fdiv (.f (.int i)) (.f (.int j)) h=.ok (.f (.int (i / j))) h:=by simp [zf,ZB,c]
theorem Qd (fz:Bool) (i j:Int) (c:0 < j):zf fz .mod (.f (.int i)) (.f (.int j)) h=.ok (.f (.int (i % j))) h:=by simp [zf,ZB,c]
theorem Yav (fz:Bool) (i j:Int) (c:0≤j∧j≤1000000∧i.natAbs < 2 ^ 64):zf fz .pow (.f (.int i)) (.f (.int j)) h=.ok (.f (.int (i ^ j.toNat))) h:=by simp [zf,ZB,c]
@[simp] theorem bltV_len (fz:Bool) (v:MV):Yv fz "len" [v] h=opt (yb h v) fun xs=>.ok (.f (.int xs.length)) h:=rfl
@[simp] theorem zn (fz:Bool) (v:MV):Yv fz "sum" [v] h=opt ((yb h v).bind yf) fun xs=>.ok (.f (.int xs.sum)) h:=rfl
@[simp] theorem bltV_all (fz:Bool) (v:MV):Yv fz "all" [v] h=opt ((yb h v).bind ZaL) fun xs=>.ok (.f (.bl (xs.all id))) h:=rfl
@[simp] theorem Zb7 (fz:Bool) (v:MV):Yv fz "tuple" [v] h=opt (yb h v) fun xs=>.ok (Zg xs) h:=rfl
@[simp] theorem Qcf (fz:Bool) (v:MV):Yv fz "list" [v] h=opt (yb h v) fun xs=>Zq fz xs h:=rfl
@[simp] theorem Zcg (fz:Bool) (i j:Int):Yv fz "min" [.f (.int i),.f (.int j)] h=.ok (.f (.int (if j < i then j else i))) h:=rfl
@[simp] theorem qcd (fz:Bool) (i j:Int):Yv fz "max" [.f (.int i),.f (.int j)] h=.ok (.f (.int (if j > i then j else i))) h:=rfl
@[simp] theorem bltV_abs (fz:Bool) (i:Int):Yv fz "abs" [.f (.int i)] h=.ok (.f (.int (if i < 0 then -i else i))) h:=rfl
@[simp] theorem Zce (fz:Bool) (i:Int):Yv fz "int" [.f (.int i)] h=.ok (.f (.int i)) h:=rfl
@[simp] theorem ycd (fz:Bool) (b:Bool):Yv fz "int" [.f (.bl b)] h=.ok (.f (.int (if b then 1 else 0))) h:=rfl
end
@[simp] theorem ite_okH {α:Type} (c:Prop) [Decidable c] (x y:α) (h:MH):(if c then R.ok x h else R.ok y h)=R.ok (if c then x else y) h:=by split <;> rfl
@[simp] theorem ite_f (c:Prop) [Decidable c] (x y:FV):(if c then MV.f x else MV.f y)=MV.f (if c then x else y):=by split <;> rfl
@[simp] theorem ite_bl (c:Prop) [Decidable c] (x y:Bool):(if c then FV.bl x else FV.bl y)=FV.bl (if c then x else y):=by split <;> rfl
@[simp] theorem ite_int (c:Prop) [Decidable c] (x y:Int):(if c then FV.int x else FV.int y)=FV.int (if c then x else y):=by split <;> rfl
theorem Yn (xs:List MV) (k:Nat):atM xs (k:Int)=xs[k]?:=by
  unfold atM ixM
  by_cases h:k < xs.length
  · simp [h]
  · simp [h]
theorem yA (xs:List MV) (i:Int) (h:0≤i):atM xs i=xs[i.toNat]?:=by
  have:=Yn xs i.toNat
  rwa [Int.toNat_of_nonneg h] at this
@[simp] theorem atM_zero (x:MV) (xs:List MV):atM (x::xs) 0=some x:=by have:=Yn (x::xs) 0; simpa using this
@[simp] theorem atM_one (x y:MV) (xs:List MV):atM (x::y::xs) 1=some y:=by have:=Yn (x::y::xs) 1; simpa using this
@[simp] theorem atM_two (x y z:MV) (xs:List MV):atM (x::y::z::xs) 2=some z:=by have:=Yn (x::y::z::xs) 2; simpa using this
noncomputable def sq (b:Bool) (xs:List FV):FV:=if b=true then .tup xs else .lst xs
@[simp] theorem seqOf_sq (h:MH) (b:Bool) (xs:List FV):yb h (.f (sq b xs))=some (xs.map .f):=by cases b <;> rfl
@[simp] theorem Zb3 (h:MH) (b:Bool) (xs:List FV):Zc h (.f (sq b xs))=[]:=rfl
noncomputable def Ybc:List Int→Int
  | []=>0
  | x::r=>zam x r
noncomputable def YX:List Int→Int
  | []=>0
  | x::r=>Zap x r
theorem yaB:∀ (r:List Int) (m:Int),zam m r≤m∧∀ v∈r,zam m r≤v
  | [],m=>⟨Int.le_refl _,fun v hv=>by simp at hv⟩
  | x::r,m=>by
    obtain ⟨a,b⟩:=yaB r (if x < m then x else m)
    simp only [zam]
    refine ⟨by split at a <;> rename_i hc <;> simp only [hc,if_true,if_false] <;> omega,fun v hv=>?_⟩
    rcases List.mem_cons.mp hv with rfl | hv
    · split at a <;> rename_i hc <;> simp only [hc,if_true,if_false] <;> omega
    · exact b v hv
theorem zaG:∀ (r:List Int) (m:Int),zam m r=m∨zam m r∈r
  | [],m=>.inl rfl
  | x::r,m=>by
    simp only [zam]
    rcases zaG r (if x < m then x else m) with e | e
    · rw [e]; split
      · exact .inr (by simp)
      · exact .inl rfl
    · exact .inr (by simp [e])
theorem yaw:∀ (r:List Int) (m:Int),m≤Zap m r∧∀ v∈r,v≤Zap m r
  | [],m=>⟨Int.le_refl _,fun v hv=>by simp at hv⟩
  | x::r,m=>by
    obtain ⟨a,b⟩:=yaw r (if x > m then x else m)
    simp only [Zap]
    refine ⟨by split at a <;> rename_i hc <;> simp only [hc,if_true,if_false] <;> omega,fun v hv=>?_⟩
    rcases List.mem_cons.mp hv with rfl | hv
    · split at a <;> rename_i hc <;> simp only [hc,if_true,if_false] <;> omega
    · exact b v hv
theorem yaL:∀ (r:List Int) (m:Int),Zap m r=m∨Zap m r∈r
  | [],m=>.inl rfl
  | x::r,m=>by
    simp only [Zap]
    rcases yaL r (if x > m then x else m) with e | e
    · rw [e]; split
      · exact .inr (by simp)
      · exact .inl rfl
    · exact .inr (by simp [e])
theorem yad {r:List Int} (h:r≠[]):Ybc r∈r:=by
  cases r with
  | nil=>exact absurd rfl h
  | cons x r=>rcases zaG r x with e | e <;> simp [Ybc,e]
theorem yai {r:List Int} (h:r≠[]):YX r∈r:=by
  cases r with
  | nil=>exact absurd rfl h
  | cons x r=>rcases yaL r x with e | e <;> simp [YX,e]
theorem qbD {r:List Int} {v:Int} (h:v∈r):Ybc r≤v:=by
  cases r with
  | nil=>simp at h
  | cons x r =>
    rcases List.mem_cons.mp h with rfl | h
    · exact (yaB r v).1
    · exact (yaB r x).2 v h
theorem yaE {r:List Int} {v:Int} (h:v∈r):v≤YX r:=by
  cases r with
  | nil=>simp at h
  | cons x r =>
    rcases List.mem_cons.mp h with rfl | h
    · exact (yaw r v).1
    · exact (yaw r x).2 v h
theorem qaJ (fz:Bool) (h:MH) (v:MV) (ns:List Int) (e:(yb h v).bind yf=some ns) (ne:ns≠[]):Yv fz "min" [v] h=.ok (I (Ybc ns)) h:=by
  cases ns with
  | nil=>exact absurd rfl ne
  | cons x r=>show opt ((yb h v).bind yf) _=_; rw [e]; rfl
theorem yaG (fz:Bool) (h:MH) (v:MV) (ns:List Int) (e:(yb h v).bind yf=some ns) (ne:ns≠[]):Yv fz "max" [v] h=.ok (I (YX ns)) h:=by
  cases ns with
  | nil=>exact absurd rfl ne
  | cons x r=>show opt ((yb h v).bind yf) _=_; rw [e]; rfl
theorem Zx (h t:MH) (xs:List MV):ze (h++.lst xs::t) h.length=some xs:=by simp [ze]
theorem yJ (h t:MH) (xs ys:List MV):qe (h++.lst xs::t) h.length ys=h++.lst ys::t:=by simp [qe]
theorem qY (h:MH) (n:Nat):∀ xs:List FV,(xs.map MV.f).mapM (Yj h (n + 1))=some xs
  | []=>rfl
  | x::r=>by simp [List.mapM_cons,qY h n r,Yj]
theorem yaV (h:MH) (n:Nat):∀ xs:List FV,(xs.map MV.f).flatMap (Qi h (n + 1))=[]
  | []=>rfl
  | x::r=>by simp [Qi]
theorem yaI (h t:MH) (as:List Nat) (ha:∀ a∈as,h.length≤a):∃ t',kill as (h++t)=h++t':=by
  refine ⟨(t.mapIdx fun i c=>if i + h.length∈as then .dead else c),?_⟩
  unfold kill
  rw [List.mapIdx_append]
  congr 1
  · refine List.ext_getElem? fun i=>?_
    rw [List.getElem?_mapIdx]
    cases q:h[i]? with
    | none=>rfl
    | some c =>
      have hi:=(List.getElem?_eq_some_iff.mp q).1
      have:i∉as:=fun z=>by have:=ha i z; omega
      simp [this]
theorem qaI (h:MH) (a:Nat) (xs:List FV) (e:ze h a=some (xs.map .f)):qB (.ref a) h=.ok (.f (.lst xs)) (kill [a] h):=by
  simp only [qB,ZD,Yj,e,Option.bind_some,qY,Option.map_some,Zf,Qi,Option.getD_some,yaV]
@[simp] theorem frz_f (h:MH) (x:FV):qB (.f x) h=.ok (.f x) h:=by
  have:kill [] h=h:=by unfold kill; refine List.ext_getElem? fun i=>?_; rw [List.getElem?_mapIdx]; cases h[i]? <;> rfl
  simp [qB,ZD,Yj,Qi,this]
@[simp] theorem Qb9 (k:String→MH→RS) (c:String) (h:MH):RS.caught k (.exc c h)=k c h:=id rfl
@[simp] theorem ybO (k:String→MH→RS) (σ:MSt) (h:MH):RS.caught k (.next σ h)=.next σ h:=id rfl
@[simp] theorem Zb4 (k:String→MH→RS) (v:MV) (h:MH):RS.caught k (.ret v h)=.ret v h:=id rfl
theorem TrOk.refl (h:MH):TrOk h h:=⟨Nat.le_refl _,fun i c _ e=>.inl e⟩
theorem TrOk.app (h t:MH):TrOk h (h++t):=⟨by simp,fun i c hi e=>.inl (by rw [List.getElem?_append_left hi] at e; exact e)⟩
theorem TrOk.cons {c c':Cell} {h h':MH} (t:TrOk h h') (e:c'=c∨FlatC c'):TrOk (c::h) (c'::h'):=by
  refine ⟨by have:=t.1; simp; omega,fun i d hi q=>?_⟩
  cases i with
  | zero => simp at q; subst q; rcases e with e | e
            · left; simp [e]
            · exact .inr e
  | succ i=>simp at q hi ⊢; exact t.2 i d hi q
@[simp] theorem YbS (h:MH) (x:FV):qg h (.f x) h=.ok (.f x) h:=by simp [qg,TrOk.refl]
@[simp] theorem Qce (h t:MH) (x:FV):qg h (.f x) (h++t)=.ok (.f x) h:=by simp [qg,TrOk.app]
@[simp] theorem leave_at (h:MH) (k k':Int) (x:FV):qg (.lst [I k]::h) (.f x) (.lst [I k']::h)=.ok (.f x) (.lst [I k']::h):=by
  simp [qg,TrOk.cons (TrOk.refl h) (.inr ⟨[.int k'],rfl⟩:Cell.lst [I k']=Cell.lst [I k]∨FlatC (.lst [I k']))]
@[simp] theorem ybF (h t:MH) (k k':Int) (x:FV):qg (.lst [I k]::h) (.f x) (.lst [I k']::(h++t))=.ok (.f x) (.lst [I k']::h):=by
  simp [qg,TrOk.cons (TrOk.app h t) (.inr ⟨[.int k'],rfl⟩:Cell.lst [I k']=Cell.lst [I k]∨FlatC (.lst [I k']))]
@[simp] theorem YbO (h:MH) (c:String):qK h c h=.exc c h:=by simp [qK,TrOk.refl]
@[simp] theorem Yb2 (h t:MH) (c:String):qK h c (h++t)=.exc c h:=by simp [qK,TrOk.app]
@[simp] theorem zbR (h:MH) (σ:MSt) (h':MH):Zd h (.next σ h')=qg h (.f .non) h':=id rfl
@[simp] theorem Zb6 (h:MH) (v:MV) (h':MH):Zd h (.ret v h')=qg h v h':=id rfl
@[simp] theorem YbY (h:MH) (c:String) (h':MH):Zd h (.exc c h')=qK h c h':=id rfl
@[simp] theorem yu (h:MH):GuardOk [] h:=fun p hp=>by simp at hp
@[simp] theorem Ycb (h:MH) (x:FV):Zc h (.f x)=[]:=rfl
@[simp] theorem ybQ (h:MH) (x:List MV):Zc h (.tup x)=[]:=rfl
theorem yY (bd:MV→MSt→MH→RS) (x:MV) (r:List MV) (σ:MSt) (h:MH):Zu [] bd (x::r) σ h=(bd x σ h).turn fun σ1 h1=>Zu [] bd r σ1 h1:=by simp [Zu]
@[simp] theorem itV_seq (h:MH) (v:MV):itV "seq" [v] h=(yb h v).map fun xs=>(xs,Zc h v):=rfl
theorem Qk (h:MH) (n:Int) (c:-(2 ^ 62)≤n∧n < 2 ^ 62):itV "range" [.f (.int n)] h=some ((List.range n.toNat).map fun (k:Nat)=>I k,[]):=if_pos c
@[simp] theorem itV_zip (h:MH) (u v:MV):itV "zip" [u,v] h=(yb h u).bind fun xs=>(yb h v).map fun ys=>((xs.zip ys).map fun p=>Zg [p.1,p.2],Zc h u++Zc h v):=rfl
@[simp] theorem itV_enum (h:MH) (v:MV):itV "enumerate" [v] h=(yb h v).map fun xs=>(xs.mapIdx fun k x=>Zg [.f (.int k),x],Zc h v):=rfl
@[simp] theorem ybX (n:Nat):(((n:Int) + 1=0)=False):=eq_false (by omega)
@[simp] theorem YbP (n:Nat):(((n:Int) + 1 == 0)=false):=beq_false_of_ne (by omega)
theorem yD {α:Type} {bd:MV→MSt→MH→R (Option MV×MSt)} {h:MH} {e g:α→MV} {caps:MSt}:∀ (ys:List α) (acc:List MV) (z:Option MV),acc.length + ys.length≤sizeL →
    (∀ y∈ys,∀ z,∃ z',bd (e y) (z::caps) h=.ok (some (g y),z'::caps) h)→Qn [] bd (ys.map e) acc (z::caps) h=.ok (acc++ys.map g) h
  | [],acc,z,_,_=>by simp [Qn]
  | y::r,acc,z,hl,hb=>by
    obtain ⟨z',e'⟩:=hb y (by simp) z
    simp only [List.length_cons] at hl
    have:=yD (bd:=bd) (h:=h) (e:=e) (g:=g) (caps:=caps) r (acc++[g y]) z' (by simp; omega) (fun y hy z=>hb y (by simp [hy]) z)
    simp [Qn,e',this]
    omega
theorem zM {α β:Type} {bd:MV→MSt→MH→RS} {e:α→MV} {st:β→MSt} {hp:β→MH} {f:β→α→β}:∀ (ys:List α) (b:β),
    (∀ y∈ys,∀ b,bd (e y) (st b) (hp b)=.next (st (f b y)) (hp (f b y)))→Zu [] bd (ys.map e) (st b) (hp b)=.next (st (ys.foldl f b)) (hp (ys.foldl f b))
  | [],b,_=>by simp [Zu]
  | y::r,b,hb=>by
    simp only [List.map_cons,yY,hb y (by simp) b,RS.turn_next,List.foldl_cons]
    exact zM r (f b y) fun y hy b=>hb y (by simp [hy]) b
theorem zal {α β:Type} {bd:MV→MSt→MH→RS} {e:α→MV} {st:β→MSt} {hp:β→MH} {f:β→α→β} (Pb:β→Prop):∀ (ys:List α) (b:β),Pb b →
    (∀ y∈ys,∀ b,Pb b→bd (e y) (st b) (hp b)=.next (st (f b y)) (hp (f b y))∧Pb (f b y))→Zu [] bd (ys.map e) (st b) (hp b)=.next (st (ys.foldl f b)) (hp (ys.foldl f b))∧Pb (ys.foldl f b)
  | [],b,p,_=>⟨by simp [Zu],p⟩
  | y::r,b,p,hb=>by
    obtain ⟨e1,p1⟩:=hb y (by simp) b p
    simp only [List.map_cons,yY,e1,RS.turn_next,List.foldl_cons]
    exact zal Pb r (f b y) p1 fun y hy b=>hb y (by simp [hy]) b
theorem Qaf {α:Type} {bd:MV→MSt→MH→RS} {e:α→MV} (Pv:Nat→MSt→MH→Prop):∀ (ys:List α) (i:Nat) (σ:MSt) (h:MH),Pv i σ h →
    (∀ j y σ h,ys[j]?=some y→Pv (i + j) σ h→∃ σ' h',bd (e y) σ h=.next σ' h'∧Pv (i + j + 1) σ' h')→∃ σ' h',Zu [] bd (ys.map e) σ h=.next σ' h'∧Pv (i + ys.length) σ' h'
  | [],i,σ,h,p,_=>⟨σ,h,by simp [Zu],p⟩
  | y::r,i,σ,h,p,hb=>by
    obtain ⟨σ1,h1,e1,p1⟩:=hb 0 y σ h rfl p
    obtain ⟨σ2,h2,e2,p2⟩:=Qaf (bd:=bd) (e:=e) Pv r (i + 1) σ1 h1 p1 (fun j y σ h hj pj=>by
      have:=hb (j + 1) y σ h (by simpa using hj) (by rw [show i + (j + 1)=i + 1 + j by omega]; exact pj)
      rwa [show i + (j + 1) + 1=i + 1 + j + 1 by omega] at this)
    refine ⟨σ2,h2,by simp [yY,e1,e2],?_⟩
    rwa [show i + (y::r).length=i + 1 + r.length by simp; omega]
end MP
end
section
namespace SD
open PySem PySem.Spec PyProof.Rows L2 L3 M3 MP
structure Tx where
  adr:String→Addr
  K:PySem.W.Frag
  cd:Addr:=0
  tb:Addr:=0
  lp:Pos:=⟨0,0,0,0⟩
  lq:Str:=Str.ofString ""
instance:CoeFun Tx (fun _=>String→Addr):=⟨Tx.adr⟩
noncomputable def ScrK (K:PySem.W.Frag) (a:Addr) (ns:List Int):Prop:=∃ (o:Obj) (its:Array Value) (n:Nat),K.lookup a=some o∧o.cls=.type "list"∧o.dict=none∧o.data=.seq its n∧its.size≤sizeLine∧Vals (ns.map V.int) its.toList
noncomputable def Liv (μ:List Addr) (h:MH) (b:Addr):Prop:=∃ (i:Nat) (c:Cell),μ[i]?=some b∧h[i]?=some c∧c≠Cell.dead
section
variable (ct:Tx)
mutual
noncomputable def RF (L:Addr→Prop) (H:Hp):FV→V→Prop
  | .non,v=>v=.non
  | .bl b,v=>v=.bl b
  | .int i,v=>v=.int i
  | .str x,v=>v=.str x
  | .tup xs,v=>∃ a vs,v=.ref a∧¬ L a∧H a=some (.tup vs)∧RFs L H xs vs
  | .lst xs,v=>∃ a vs,v=.ref a∧¬ L a∧Rd H a (.lst vs)∧RFs L H xs vs
  | .obj c ns xs,v=>∃ a dx fs,v=.ref a∧¬ L a∧H a=some (.ins (ct c) dx fs)∧fs.map Prod.fst=ns.map Str.ofString∧RFs L H xs (fs.map Prod.snd)
  | .tab kvs,v=>∃ a o,v=.ref a∧¬ L a∧H a=some (.frz o (.dT (kvs.map fun kv=>([(Sum.inl kv.1.1:Key),Sum.inl kv.1.2],V.int kv.2))))
  | .scr ns,v=>∃ a,v=.ref a∧((¬ L a∧∃ o,H a=some (.frz o (.lst (ns.map V.int))))∨ScrK ct.K a ns)
noncomputable def RFs (L:Addr→Prop) (H:Hp):List FV→List V→Prop
  | [],vs=>vs=[]
  | x::xs,vs=>∃ v r,vs=v::r∧RF L H x v∧RFs L H xs r
end
mutual
noncomputable def RV (μ:List Addr) (L:Addr→Prop) (H:Hp):MV→V→Prop
  | .f x,v=>RF ct L H x v
  | .ref i,v=>∃ b,μ[i]?=some b∧v=.ref b
  | .tup xs,v=>∃ a vs,v=.ref a∧¬ L a∧H a=some (.tup vs)∧RVs μ L H xs vs
  | .exc c,v=>∃ a,v=.ref a∧¬ L a∧H a=some (.ext (excP (ct c) a))
noncomputable def RVs (μ:List Addr) (L:Addr→Prop) (H:Hp):List MV→List V→Prop
  | [],vs=>vs=[]
  | x::xs,vs=>∃ v r,vs=v::r∧RV μ L H x v∧RVs μ L H xs r
end
noncomputable def CellOk (μ:List Addr) (L:Addr→Prop) (H:Hp) (b:Addr):Cell→Prop
  | .lst xs=>∃ vs,H b=some (.lst vs)∧RVs ct μ L H xs vs
  | .obj c fs=>∃ dx gs,H b=some (.ins (ct c) dx gs)∧gs.map Prod.fst=fs.map (fun p=>Str.ofString p.1)∧RVs ct μ L H (fs.map Prod.snd) (gs.map Prod.snd)
  | .dic ks=>H b=some (.dK (ks.map fun k=>((Sum.inl k:Key),V.bl true)))
  | .tab kvs=>H b=some (.dT (kvs.map fun kv=>([(Sum.inl kv.1.1:Key),Sum.inl kv.1.2],V.int kv.2)))
  | .code=>b=ct.tb∧(H b=some (.ext (qA b ct.lp none))∨∃ c',c'≠b∧¬ L c'∧H b=some (.ext (qA b ct.lp (some c')))∧H c'=some (.ext (yae c' ct.lq)))
  | .dead=>True
structure Rel (μ:List Addr) (h:MH) (H:Hp):Prop where
  len:μ.length=h.length
  nd:μ.Nodup
  has:∀ b∈μ,∃ o,H b=some o
  cells:∀ (i:Nat) (b:Addr) (c:Cell),μ[i]?=some b→h[i]?=some c→CellOk ct μ (Liv μ h) H b c
end
structure Ext (μ:List Addr) (h:MH) (H:Hp) (μ':List Addr) (h':MH) (H':Hp):Prop where
  pre:∃ ν,μ'=μ++ν
  keep:∀ b o,H b=some o→¬ Liv μ h b→H' b=some o
  liv:∀ b,Liv μ' h' b→Liv μ h b∨H b=none
theorem Ext.refl (μ:List Addr) (h:MH) (H:Hp):Ext μ h H μ h H:=⟨⟨[],by simp⟩,fun _ _ e _=>e,fun _ l=>.inl l⟩
theorem Ext.trans {μ μ1 μ2:List Addr} {h h1 h2:MH} {H H1 H2:Hp} (a:Ext μ h H μ1 h1 H1) (b:Ext μ1 h1 H1 μ2 h2 H2):Ext μ h H μ2 h2 H2:=by
  obtain ⟨ν,e⟩:=a.pre
  obtain ⟨ν',e'⟩:=b.pre
  refine ⟨⟨ν++ν',by rw [e',e,List.append_assoc]⟩,fun c o q n=>?_,fun c l=>?_⟩
  · refine b.keep c o (a.keep c o q n) fun l=>?_
    rcases a.liv c l with z | z
    · exact n z
    · rw [q] at z; cases z
  · rcases b.liv c l with z | z
    · exact a.liv c z
    · by_cases n:Liv μ h c
      · exact .inl n
      · cases q:H c with
        | none=>exact .inr rfl
        | some o=>rw [a.keep c o q n] at z; cases z
theorem Rd.keep {H H':Hp} {a:Addr} {u:HO} (k:∀ o,H a=some o→H' a=some o) (r:Rd H a u):Rd H' a u:=r.elim (fun e=>.inl (k _ e)) fun ⟨o,e⟩=>.inr ⟨o,k _ e⟩
theorem Rd.some {H:Hp} {a:Addr} {u:HO} (r:Rd H a u):∃ o,H a=some o:=r.elim (fun e=>⟨_,e⟩) fun ⟨_,e⟩=>⟨_,e⟩
section
variable {ct:Tx}
structure Let (L:Addr→Prop) (H:Hp) (L':Addr→Prop) (H':Hp):Prop where
  keep:∀ b o,H b=some o→¬ L b→H' b=some o
  liv:∀ b o,H b=some o→¬ L b→¬ L' b
theorem Ext.let {μ μ':List Addr} {h h':MH} {H H':Hp} (e:Ext μ h H μ' h' H'):Let (Liv μ h) H (Liv μ' h') H' :=
  ⟨e.keep,fun b o q n l=>(e.liv b l).elim n fun z=>by rw [q] at z; cases z⟩
mutual
theorem RF.to {L L':Addr→Prop} {H H':Hp} (l:Let L H L' H'):∀ {x:FV} {v:V},RF ct L H x v→RF ct L' H' x v
  | .non,_,r=>by simpa only [RF] using r
  | .bl _,_,r=>by simpa only [RF] using r
  | .int _,_,r=>by simpa only [RF] using r
  | .str _,_,r=>by simpa only [RF] using r
  | .tup xs,v,r=>by
    simp only [RF] at r ⊢
    obtain ⟨a,vs,e,n,rd,q⟩:=r
    exact ⟨a,vs,e,l.liv a _ rd n,l.keep a _ rd n,RFs.to l q⟩
  | .lst xs,v,r=>by
    simp only [RF] at r ⊢
    obtain ⟨a,vs,e,n,rd,q⟩:=r
    obtain ⟨o,ho⟩:=Rd.some rd
    exact ⟨a,vs,e,l.liv a o ho n,Rd.keep (fun o e=>l.keep a o e n) rd,RFs.to l q⟩
  | .obj c ns xs,v,r=>by
    simp only [RF] at r ⊢
    obtain ⟨a,dx,fs,e,n,ho,q1,q⟩:=r
    exact ⟨a,dx,fs,e,l.liv a _ ho n,l.keep a _ ho n,q1,RFs.to l q⟩
  | .tab kvs,v,r=>by
    simp only [RF] at r ⊢
    obtain ⟨a,o,e,n,q⟩:=r
    exact ⟨a,o,e,l.liv a _ q n,l.keep a _ q n⟩
  | .scr ns,v,r=>by
    simp only [RF] at r ⊢
    obtain ⟨a,e,q⟩:=r
    exact ⟨a,e,q.imp (fun ⟨n,o,h⟩=>⟨l.liv a _ h n,o,l.keep a _ h n⟩) id⟩
theorem RFs.to {L L':Addr→Prop} {H H':Hp} (l:Let L H L' H'):∀ {xs:List FV} {vs:List V},RFs ct L H xs vs→RFs ct L' H' xs vs
  | [],_,r=>by simpa only [RFs] using r
  | x::xs,vs,r=>by
    simp only [RFs] at r ⊢
    obtain ⟨v,t,e,q1,q2⟩:=r
    exact ⟨v,t,e,RF.to l q1,RFs.to l q2⟩
end
mutual
theorem RV.to {μ ν:List Addr} {L L':Addr→Prop} {H H':Hp} (l:Let L H L' H'):∀ {x:MV} {v:V},RV ct μ L H x v→RV ct (μ++ν) L' H' x v
  | .f x,v,r=>by simp only [RV] at r ⊢; exact RF.to l r
  | .ref i,v,r=>by
    simp only [RV] at r ⊢
    obtain ⟨b,e,q⟩:=r
    exact ⟨b,by rw [List.getElem?_append_left (List.getElem?_eq_some_iff.mp e).1]; exact e,q⟩
  | .tup xs,v,r=>by
    simp only [RV] at r ⊢
    obtain ⟨a,vs,e,n,rd,q⟩:=r
    exact ⟨a,vs,e,l.liv a _ rd n,l.keep a _ rd n,RVs.to l q⟩
  | .exc _,v,r=>by
    simp only [RV] at r ⊢
    obtain ⟨a,e,n,q⟩:=r
    exact ⟨a,e,l.liv a _ q n,l.keep a _ q n⟩
theorem RVs.to {μ ν:List Addr} {L L':Addr→Prop} {H H':Hp} (l:Let L H L' H'):∀ {xs:List MV} {vs:List V},RVs ct μ L H xs vs→RVs ct (μ++ν) L' H' xs vs
  | [],_,r=>by simpa only [RVs] using r
  | x::xs,vs,r=>by
    simp only [RVs] at r ⊢
    obtain ⟨v,t,e,q1,q2⟩:=r
    exact ⟨v,t,e,RV.to l q1,RVs.to l q2⟩
end
theorem RV.ext {μ μ':List Addr} {h h':MH} {H H':Hp} {x:MV} {v:V} (e:Ext μ h H μ' h' H') (r:RV ct μ (Liv μ h) H x v):RV ct μ' (Liv μ' h') H' x v:=by
  obtain ⟨ν,q⟩:=e.pre
  subst q
  exact RV.to e.let r
theorem RVs.ext {μ μ':List Addr} {h h':MH} {H H':Hp} {x:List MV} {v:List V} (e:Ext μ h H μ' h' H') (r:RVs ct μ (Liv μ h) H x v):RVs ct μ' (Liv μ' h') H' x v:=by
  obtain ⟨ν,q⟩:=e.pre
  subst q
  exact RVs.to e.let r
theorem RVs.length {μ:List Addr} {L:Addr→Prop} {H:Hp}:∀ {xs:List MV} {vs:List V},RVs ct μ L H xs vs→vs.length=xs.length
  | [],_,r=>by simp only [RVs] at r; simp [r]
  | x::xs,vs,r=>by
    simp only [RVs] at r
    obtain ⟨v,t,e,_,q⟩:=r
    simp [e,RVs.length q]
theorem RVs.get {μ:List Addr} {L:Addr→Prop} {H:Hp}:∀ {xs:List MV} {vs:List V} {i:Nat} {x:MV},RVs ct μ L H xs vs→xs[i]?=some x→∃ v,vs[i]?=some v∧RV ct μ L H x v
  | [],_,_,_,_,e=>by simp at e
  | x::xs,vs,0,y,r,e=>by
    simp only [RVs] at r
    obtain ⟨v,t,q,r1,_⟩:=r
    simp at e; subst e
    exact ⟨v,by simp [q],r1⟩
  | x::xs,vs,i + 1,y,r,e=>by
    simp only [RVs] at r
    obtain ⟨v,t,q,_,r2⟩:=r
    obtain ⟨u,h1,h2⟩:=RVs.get (i:=i) r2 (by simpa using e)
    exact ⟨u,by simp [q,h1],h2⟩
theorem RVs.get' {μ:List Addr} {L:Addr→Prop} {H:Hp} {xs:List MV} {vs:List V} {i:Nat} {v:V} (r:RVs ct μ L H xs vs) (e:vs[i]?=some v):∃ x,xs[i]?=some x∧RV ct μ L H x v:=by
  have hl:=r.length
  have hi:i < xs.length:=by rw [← hl]; exact (List.getElem?_eq_some_iff.mp e).1
  obtain ⟨u,h1,h2⟩:=r.get (i:=i) (x:=xs[i]) (by simp [hi])
  rw [e] at h1; cases h1
  exact ⟨_,by simp [hi],h2⟩
theorem RVs.cons {μ:List Addr} {L:Addr→Prop} {H:Hp} {x:MV} {v:V} {xs:List MV} {vs:List V} (a:RV ct μ L H x v) (b:RVs ct μ L H xs vs):RVs ct μ L H (x::xs) (v::vs):=by
  simp only [RVs]; exact ⟨v,vs,rfl,a,b⟩
theorem RVs.nil {μ:List Addr} {L:Addr→Prop} {H:Hp}:RVs ct μ L H [] []:=by simp only [RVs]
theorem RVs.append {μ:List Addr} {L:Addr→Prop} {H:Hp}:∀ {xs ys:List MV} {vs ws:List V},RVs ct μ L H xs vs→RVs ct μ L H ys ws→RVs ct μ L H (xs++ys) (vs++ws)
  | [],_,_,_,r,s=>by simp only [RVs] at r; subst r; exact s
  | x::xs,ys,vs,ws,r,s=>by
    simp only [RVs] at r
    obtain ⟨v,t,rfl,r1,r2⟩:=r
    exact RVs.cons r1 (RVs.append r2 s)
theorem RVs.take {μ:List Addr} {L:Addr→Prop} {H:Hp}:∀ (n:Nat) {xs:List MV} {vs:List V},RVs ct μ L H xs vs→RVs ct μ L H (xs.take n) (vs.take n)
  | 0,_,_,_=>RVs.nil
  | n + 1,[],_,r=>by simp only [RVs] at r; subst r; exact RVs.nil
  | n + 1,x::xs,vs,r=>by
    simp only [RVs] at r
    obtain ⟨v,t,rfl,r1,r2⟩:=r
    exact RVs.cons r1 (RVs.take n r2)
theorem RVs.drop {μ:List Addr} {L:Addr→Prop} {H:Hp}:∀ (n:Nat) {xs:List MV} {vs:List V},RVs ct μ L H xs vs→RVs ct μ L H (xs.drop n) (vs.drop n)
  | 0,_,_,r=>r
  | n + 1,[],_,r=>by simp only [RVs] at r; subst r; exact RVs.nil
  | n + 1,x::xs,vs,r=>by
    simp only [RVs] at r
    obtain ⟨v,t,rfl,r1,r2⟩:=r
    exact RVs.drop n r2
theorem RVs.set {μ:List Addr} {L:Addr→Prop} {H:Hp} {y:MV} {u:V} (q:RV ct μ L H y u):∀ (n:Nat) {xs:List MV} {vs:List V},RVs ct μ L H xs vs→RVs ct μ L H (xs.set n y) (vs.set n u)
  | _,[],_,r=>by simp only [RVs] at r; subst r; exact RVs.nil
  | 0,x::xs,vs,r=>by
    simp only [RVs] at r
    obtain ⟨v,t,rfl,r1,r2⟩:=r
    exact RVs.cons q r2
  | n + 1,x::xs,vs,r=>by
    simp only [RVs] at r
    obtain ⟨v,t,rfl,r1,r2⟩:=r
    exact RVs.cons r1 (RVs.set q n r2)
theorem RVs.ofF {μ:List Addr} {L:Addr→Prop} {H:Hp}:∀ {xs:List FV} {vs:List V},RFs ct L H xs vs→RVs ct μ L H (xs.map MV.f) vs
  | [],_,r=>by simp only [RFs] at r; subst r; exact RVs.nil
  | x::xs,vs,r=>by
    simp only [RFs] at r
    obtain ⟨v,t,rfl,r1,r2⟩:=r
    exact RVs.cons (by simp only [RV]; exact r1) (RVs.ofF r2)
theorem RVs.toF {μ:List Addr} {L:Addr→Prop} {H:Hp}:∀ {xs:List MV} {ys:List FV} {vs:List V},Qh xs=some ys→RVs ct μ L H xs vs→RFs ct L H ys vs
  | [],ys,vs,e,r=>by simp [Qh] at e; subst e; simp only [RVs] at r; subst r; simp only [RFs]
  | .f x::xs,ys,vs,e,r=>by
    simp only [Qh,Option.map_eq_some_iff] at e
    obtain ⟨zs,e1,rfl⟩:=e
    simp only [RVs] at r
    obtain ⟨v,t,rfl,r1,r2⟩:=r
    simp only [RFs]
    exact ⟨v,t,rfl,by simpa only [RV] using r1,RVs.toF e1 r2⟩
  | .ref _::_,_,_,e,_=>by simp [Qh] at e
  | .tup _::_,_,_,e,_=>by simp [Qh] at e
  | .exc _::_,_,_,e,_=>by simp [Qh] at e
end
section
variable {ct:Tx}
structure RelSt (ct:Tx) (μ:List Addr) (h:MH) (H:Hp) (σ:L2.St) (σs:MSt):Prop where
  len:σ.length=σs.length
  at_:∀ (i:Nat) (m:MV),σs[i]?=some (some m)→∃ v,σ[i]?=some (some v)∧RV ct μ (Liv μ h) H m v
theorem RelSt.ext {μ μ':List Addr} {h h':MH} {H H':Hp} {σ:L2.St} {σs:MSt} (e:Ext μ h H μ' h' H') (r:RelSt ct μ h H σ σs):RelSt ct μ' h' H' σ σs :=
  ⟨r.len,fun i m q=>let ⟨v,a,b⟩:=r.at_ i m q; ⟨v,a,b.ext e⟩⟩
theorem RelSt.set {μ:List Addr} {h:MH} {H:Hp} {σ:L2.St} {σs:MSt} {m:MV} {v:V} (i:Nat) (r:RelSt ct μ h H σ σs) (q:RV ct μ (Liv μ h) H m v):RelSt ct μ h H (σ.set i (some v)) (σs.set i (some m)):=by
  refine ⟨by simp [r.len],fun j m' e=>?_⟩
  by_cases hj:i=j
  · subst hj
    have hi:i < σs.length:=by
      have:=(List.getElem?_eq_some_iff.mp e).1
      simpa using this
    rw [List.getElem?_set_self hi] at e
    cases e
    exact ⟨v,by rw [List.getElem?_set_self (by rw [r.len]; exact hi)],q⟩
  · rw [List.getElem?_set_ne hj] at e
    obtain ⟨u,a,b⟩:=r.at_ j m' e
    exact ⟨u,by rw [List.getElem?_set_ne hj]; exact a,b⟩
noncomputable def Po {α:Type} (ct:Tx) (E:XK) (r:R α) (μ:List Addr) (h:MH) (H:Hp) (k:α→List Addr→MH→Hp→Prop):Prop:=match r with
  | .ok x h'=>∀ μ' H',Ext μ h H μ' h' H'→Rel ct μ' h' H'→k x μ' h' H'
  | .exc c h'=>∀ μ' H',Ext μ h H μ' h' H'→Rel ct μ' h' H'→E (.ref (ct c)) none H'
  | .stuck=>False
section
variable {α β:Type} {E:XK} {μ μ1:List Addr} {h h1:MH} {H H1:Hp}
theorem Po.start {r:R α} {k:α→List Addr→MH→Hp→Prop} (e:Ext μ h H μ1 h1 H1) (p:Po ct E r μ h H k):Po ct E r μ1 h1 H1 k:=by
  cases r with
  | ok x h'=>exact fun μ' H' e' r'=>p μ' H' (e.trans e') r'
  | exc c h'=>exact fun μ' H' e' r'=>p μ' H' (e.trans e') r'
  | stuck=>exact p
theorem Po.bind {r:R α} {g:α→MH→R β} {k:β→List Addr→MH→Hp→Prop} (p:Po ct E (r.bind g) μ h H k):Po ct E r μ h H fun x μ1 h1 H1=>Ext μ h H μ1 h1 H1∧Rel ct μ1 h1 H1∧Po ct E (g x h1) μ1 h1 H1 k:=by
  cases r with
  | ok x h'=>exact fun μ' H' e' r'=>⟨e',r',Po.start (r:=g x h') e' p⟩
  | exc c h'=>exact p
  | stuck=>exact p
theorem Po.imp {r:R α} {k k':α→List Addr→MH→Hp→Prop} (p:Po ct E r μ h H k) (f:∀ x μ1 h1 H1,k x μ1 h1 H1→k' x μ1 h1 H1):Po ct E r μ h H k':=by
  cases r with
  | ok x h'=>exact fun μ' H' e' r'=>f _ _ _ _ (p μ' H' e' r')
  | exc c h'=>exact p
  | stuck=>exact p
theorem Po.opt {o:Option α} {g:α→R β} {k:β→List Addr→MH→Hp→Prop} (p:Po ct E (opt o g) μ h H k):∃ x,o=some x∧Po ct E (g x) μ h H k:=by
  cases o with
  | none=>exact p.elim
  | some x=>exact ⟨x,rfl,p⟩
theorem Po.now {x:α} {k:α→List Addr→MH→Hp→Prop} (rel:Rel ct μ h H) (p:Po ct E (.ok x h) μ h H k):k x μ h H:=p μ H (Ext.refl _ _ _) rel
theorem Po.now' {x:α} {h':MH} {k:α→List Addr→MH→Hp→Prop} (p:Po ct E (.ok x h') μ h H k) {μ':List Addr} {H':Hp} (e:Ext μ h H μ' h' H') (rel:Rel ct μ' h' H'):k x μ' h' H':=p μ' H' e rel
end
noncomputable def kV (ct:Tx) (Q:VK):MV→List Addr→MH→Hp→Prop:=fun m μ h H=>∀ v,RV ct μ (Liv μ h) H m v→Q v H
noncomputable def kVs (ct:Tx) (Q:List V→Hp→Prop):List MV→List Addr→MH→Hp→Prop:=fun m μ h H=>∀ v,RVs ct μ (Liv μ h) H m v→Q v H
section
variable (ct) (Ra:L2.St→Prop) (E:XK)
noncomputable def lE (ev:MSt→MH→R MV):TE:=fun σ H Q=>∃ μ h σs,Rel ct μ h H∧RelSt ct μ h H σ σs∧Ra σ∧Po ct E (ev σs h) μ h H (kV ct Q)
noncomputable def lT (ev:MSt→MH→R Bool):TT:=fun σ H Q=>∃ μ h σs,Rel ct μ h H∧RelSt ct μ h H σ σs∧Ra σ∧Po ct E (ev σs h) μ h H fun b _ _ H'=>Q b H'
noncomputable def lA (ev:MSt→MH→R (List MV)):TA:=fun σ H Q=>∃ μ h σs,Rel ct μ h H∧RelSt ct μ h H σ σs∧Ra σ∧Po ct E (ev σs h) μ h H (kVs ct Q)
noncomputable def lO (ev:MSt→MH→R (Option Int)):TO:=fun σ H Q=>∃ μ h σs,Rel ct μ h H∧RelSt ct μ h H σ σs∧Ra σ∧Po ct E (ev σs h) μ h H fun b _ _ H'=>Q b H'
end
section
variable {Ra:L2.St→Prop} {E:XK} {μ:List Addr} {h:MH} {H:Hp} {σ:L2.St} {σs:MSt} {β:Type}
theorem lE.mk {ev:MSt→MH→R MV} {g:MV→MH→R β} {k:β→List Addr→MH→Hp→Prop} {Q:VK} (rel:Rel ct μ h H) (rst:RelSt ct μ h H σ σs) (ra:Ra σ) (p:Po ct E ((ev σs h).bind g) μ h H k)
    (f:∀ m v μ1 h1 H1,Ext μ h H μ1 h1 H1→Rel ct μ1 h1 H1→RelSt ct μ1 h1 H1 σ σs→RV ct μ1 (Liv μ1 h1) H1 m v→Po ct E (g m h1) μ1 h1 H1 k→Q v H1):lE ct Ra E ev σ H Q :=
  ⟨μ,h,σs,rel,rst,ra,(Po.bind p).imp fun m μ1 h1 H1 ⟨e1,r1,p1⟩ v rv=>f m v μ1 h1 H1 e1 r1 (rst.ext e1) rv p1⟩
theorem lT.mk {ev:MSt→MH→R Bool} {g:Bool→MH→R β} {k:β→List Addr→MH→Hp→Prop} {Q:Bool→Hp→Prop} (rel:Rel ct μ h H) (rst:RelSt ct μ h H σ σs) (ra:Ra σ) (p:Po ct E ((ev σs h).bind g) μ h H k)
    (f:∀ m μ1 h1 H1,Ext μ h H μ1 h1 H1→Rel ct μ1 h1 H1→RelSt ct μ1 h1 H1 σ σs→Po ct E (g m h1) μ1 h1 H1 k→Q m H1):lT ct Ra E ev σ H Q :=
  ⟨μ,h,σs,rel,rst,ra,(Po.bind p).imp fun m μ1 h1 H1 ⟨e1,r1,p1⟩=>f m μ1 h1 H1 e1 r1 (rst.ext e1) p1⟩
theorem lA.mk {ev:MSt→MH→R (List MV)} {g:List MV→MH→R β} {k:β→List Addr→MH→Hp→Prop} {Q:List V→Hp→Prop} (rel:Rel ct μ h H) (rst:RelSt ct μ h H σ σs) (ra:Ra σ) (p:Po ct E ((ev σs h).bind g) μ h H k)
    (f:∀ m v μ1 h1 H1,Ext μ h H μ1 h1 H1→Rel ct μ1 h1 H1→RelSt ct μ1 h1 H1 σ σs→RVs ct μ1 (Liv μ1 h1) H1 m v→Po ct E (g m h1) μ1 h1 H1 k→Q v H1):lA ct Ra E ev σ H Q :=
  ⟨μ,h,σs,rel,rst,ra,(Po.bind p).imp fun m μ1 h1 H1 ⟨e1,r1,p1⟩ v rv=>f m v μ1 h1 H1 e1 r1 (rst.ext e1) rv p1⟩
theorem lO.mk {ev:MSt→MH→R (Option Int)} {g:Option Int→MH→R β} {k:β→List Addr→MH→Hp→Prop} {Q:Option Int→Hp→Prop} (rel:Rel ct μ h H) (rst:RelSt ct μ h H σ σs) (ra:Ra σ) (p:Po ct E ((ev σs h).bind g) μ h H k)
    (f:∀ m μ1 h1 H1,Ext μ h H μ1 h1 H1→Rel ct μ1 h1 H1→RelSt ct μ1 h1 H1 σ σs→Po ct E (g m h1) μ1 h1 H1 k→Q m H1):lO ct Ra E ev σ H Q :=
  ⟨μ,h,σs,rel,rst,ra,(Po.bind p).imp fun m μ1 h1 H1 ⟨e1,r1,p1⟩=>f m μ1 h1 H1 e1 r1 (rst.ext e1) p1⟩
end
section
variable {μ:List Addr} {h:MH} {H:Hp}
theorem Liv.has (rel:Rel ct μ h H) {b:Addr} (l:Liv μ h b):∃ o,H b=some o:=let ⟨i,_,e,_,_⟩:=l; rel.has b (List.mem_of_getElem? e)
theorem Rel.fresh (rel:Rel ct μ h H) {p:Addr} (hp:H p=none):p∉μ:=fun z=>by obtain ⟨o,e⟩:=rel.has p z; rw [hp] at e; cases e
theorem Ext.new (rel:Rel ct μ h H) {p:Addr} (hp:H p=none) (o:HO):Ext μ h H μ h (upd H p o) :=
  ⟨⟨[],by simp⟩,fun b u e _=>by rw [Zb (Yf e hp)]; exact e,fun b l=>.inl l⟩
theorem CellOk.to {μ ν:List Addr} {L L':Addr→Prop} {H H':Hp} {b:Addr} {c:Cell} (l:Let L H L' H') (kb:c≠.dead→H' b=H b) (r:CellOk ct μ L H b c):CellOk ct (μ++ν) L' H' b c:=by
  cases c with
  | lst xs =>
    obtain ⟨vs,e,q⟩:=r
    exact ⟨vs,by rw [kb (fun z=>nomatch z)]; exact e,RVs.to l q⟩
  | obj c fs =>
    obtain ⟨dx,gs,e,q1,q⟩:=r
    exact ⟨dx,gs,by rw [kb (fun z=>nomatch z)]; exact e,q1,RVs.to l q⟩
  | dic ks=>exact (kb (fun z=>nomatch z)).trans r
  | tab ks=>exact (kb (fun z=>nomatch z)).trans r
  | code =>
    obtain ⟨e,r⟩:=r
    have kb:=kb (fun z=>nomatch z)
    refine ⟨e,r.elim (fun r=>.inl (kb.trans r)) fun ⟨c',n1,n2,r1,r2⟩=>.inr ⟨c',n1,l.liv _ _ r2 n2,kb.trans r1,l.keep _ _ r2 n2⟩⟩
  | dead=>trivial
theorem Rel.new (rel:Rel ct μ h H) {p:Addr} (hp:H p=none) (o:HO):Rel ct μ h (upd H p o):=by
  refine ⟨rel.len,rel.nd,fun b hb=>?_,fun i b c e1 e2=>?_⟩
  · obtain ⟨u,e⟩:=rel.has b hb
    exact ⟨u,by rw [Zb (Yf e hp)]; exact e⟩
  · have:=CellOk.to (ν:=[]) (Ext.new rel hp o).let (b:=b) (fun _=>by
      obtain ⟨u,e⟩:=rel.has b (List.mem_of_getElem? e1)
      exact Zb (Yf e hp)) (rel.cells i b c e1 e2)
    simpa using this
theorem Liv.app {μ:List Addr} {h:MH} (hl:μ.length=h.length) {p b:Addr} {c:Cell} (l:Liv (μ++[p]) (h++[c]) b):Liv μ h b∨b=p:=by
  obtain ⟨i,d,e1,e2,nd⟩:=l
  by_cases hi:i < μ.length
  · rw [List.getElem?_append_left hi] at e1
    rw [List.getElem?_append_left (by omega)] at e2
    exact .inl ⟨i,d,e1,e2,nd⟩
  · rw [List.getElem?_append_right (by omega)] at e1
    have:i - μ.length=0:=by
      have:=(List.getElem?_eq_some_iff.mp e1).1
      simp at this; omega
    rw [this] at e1
    simp at e1
    exact .inr e1.symm
theorem Ext.cell (rel:Rel ct μ h H) {p:Addr} (hp:H p=none) (c:Cell) (o:HO):Ext μ h H (μ++[p]) (h++[c]) (upd H p o) :=
  ⟨⟨[p],rfl⟩,fun b u e _=>by rw [Zb (Yf e hp)]; exact e,fun b l=>(Liv.app rel.len l).imp id fun e=>by rw [e]; exact hp⟩
theorem Rel.cell (rel:Rel ct μ h H) {p:Addr} (hp:H p=none) {c:Cell} {o:HO} (q:CellOk ct (μ++[p]) (Liv (μ++[p]) (h++[c])) (upd H p o) p c):Rel ct (μ++[p]) (h++[c]) (upd H p o):=by
  have hn:=rel.fresh hp
  refine ⟨by simp [rel.len],?_,fun b hb=>?_,fun i b d e1 e2=>?_⟩
  · rw [List.nodup_append]
    exact ⟨rel.nd,by simp,fun a ha b hb e=>by simp at hb; subst hb; subst e; exact hn ha⟩
  · rcases List.mem_append.mp hb with hb | hb
    · obtain ⟨u,e⟩:=rel.has b hb
      exact ⟨u,by rw [Zb (Yf e hp)]; exact e⟩
    · simp at hb; subst hb; exact ⟨o,yd⟩
  · by_cases hi:i < μ.length
    · rw [List.getElem?_append_left hi] at e1
      rw [List.getElem?_append_left (by have:=rel.len; omega)] at e2
      exact CellOk.to (Ext.cell rel hp c o).let (fun _=>by
        obtain ⟨u,e⟩:=rel.has b (List.mem_of_getElem? e1)
        exact Zb (Yf e hp)) (rel.cells i b d e1 e2)
    · rw [List.getElem?_append_right (by omega)] at e1
      rw [List.getElem?_append_right (by have:=rel.len; omega)] at e2
      have:i - μ.length=0:=by
        have:=(List.getElem?_eq_some_iff.mp e1).1
        simp at this; omega
      have h2:i - h.length=0:=by rw [← rel.len]; exact this
      rw [this] at e1; rw [h2] at e2
      simp at e1 e2
      subst e1; subst e2
      exact q
theorem Liv.set {i:Nat} {c c':Cell} {b:Addr} (e:h[i]?=some c) (hc:c≠.dead) (l:Liv μ (h.set i c') b):Liv μ h b:=by
  obtain ⟨j,d,e1,e2,nd⟩:=l
  by_cases hj:i=j
  · subst hj; exact ⟨i,c,e1,e,hc⟩
  · rw [List.getElem?_set_ne hj] at e2; exact ⟨j,d,e1,e2,nd⟩
theorem Ext.set (rel:Rel ct μ h H) {i:Nat} {b:Addr} {c:Cell} (e1:μ[i]?=some b) (e2:h[i]?=some c) (hc:c≠.dead) (c':Cell) (o:HO):Ext μ h H μ (h.set i c') (upd H b o) :=
  ⟨⟨[],by simp⟩,fun d u e n=>by rw [Zb (fun (z:d=b)=>n (by rw [z]; exact ⟨i,c,e1,e2,hc⟩))]; exact e,fun d l=>.inl (Liv.set e2 hc l)⟩
theorem Rel.set (rel:Rel ct μ h H) {i:Nat} {b:Addr} {c:Cell} (e1:μ[i]?=some b) (e2:h[i]?=some c) (hc:c≠.dead) {c':Cell} {o:HO} (q:CellOk ct μ (Liv μ (h.set i c')) (upd H b o) b c'):Rel ct μ (h.set i c') (upd H b o):=by
  refine ⟨by simp [rel.len],rel.nd,fun d hd=>?_,fun j d u q1 q2=>?_⟩
  · by_cases hdb:d=b
    · exact ⟨o,by rw [hdb]; exact yd⟩
    · obtain ⟨u,e⟩:=rel.has d hd
      exact ⟨u,by rw [Zb hdb]; exact e⟩
  · by_cases hj:i=j
    · subst hj
      rw [e1] at q1; cases q1
      rw [List.getElem?_set_self (List.getElem?_eq_some_iff.mp e2).1] at q2
      cases q2
      exact q
    · rw [List.getElem?_set_ne hj] at q2
      have ne:d≠b:=fun z=>by
        subst z
        exact hj ((List.getElem?_inj (List.getElem?_eq_some_iff.mp e1).1 rel.nd).mp (e1.trans q1.symm))
      have:=CellOk.to (ν:=[]) (Ext.set rel e1 e2 hc c' o).let (b:=d) (fun _=>Zb ne) (rel.cells j d u q1 q2)
      simpa using this
end
end
section
variable {ct:Tx}
section
variable {μ:List Addr} {h:MH} {H:Hp}
theorem Yag {as:List Nat} {i:Nat} {c:Cell} (e:(kill as h)[i]?=some c):(i∈as∧c=.dead)∨(i∉as∧h[i]?=some c):=by
  unfold kill at e
  rw [List.getElem?_mapIdx] at e
  cases q:h[i]? with
  | none=>rw [q] at e; cases e
  | some d =>
    rw [q] at e
    by_cases hi:i∈as
    · simp [hi] at e; exact .inl ⟨hi,e.symm⟩
    · simp [hi] at e; subst e; exact .inr ⟨hi,rfl⟩
theorem Liv.kill {as:List Nat} {b:Addr} (l:Liv μ (kill as h) b):Liv μ h b:=by
  obtain ⟨i,c,e1,e2,nd⟩:=l
  rcases Yag e2 with ⟨_,z⟩ | ⟨_,z⟩
  · exact absurd z nd
  · exact ⟨i,c,e1,z,nd⟩
theorem Ext.kill (as:List Nat):Ext μ h H μ (kill as h) H:=⟨⟨[],by simp⟩,fun _ _ e _=>e,fun b l=>.inl l.kill⟩
theorem Rel.kill (rel:Rel ct μ h H) (as:List Nat):Rel ct μ (kill as h) H:=by
  refine ⟨by rw [rel.len]; simp [MP.kill],rel.nd,rel.has,fun i b c e1 e2=>?_⟩
  rcases Yag e2 with ⟨_,z⟩ | ⟨_,z⟩
  · subst z; trivial
  · have:=CellOk.to (ν:=[]) (Ext.kill (H:=H) as).let (b:=b) (fun _=>rfl) (rel.cells i b c e1 z)
    simpa using this
theorem zG {i:Nat} {xs:List MV} (e:ze h i=some xs):h[i]?=some (.lst xs):=by
  unfold ze at e
  split at e
  next q=>cases e; exact q
  next=>cases e
theorem Rel.lst (rel:Rel ct μ h H) {i:Nat} {xs:List MV} (e:ze h i=some xs):∃ b vs,μ[i]?=some b∧H b=some (.lst vs)∧RVs ct μ (Liv μ h) H xs vs:=by
  have e2:=zG e
  have hi:i < μ.length:=by rw [rel.len]; exact (List.getElem?_eq_some_iff.mp e2).1
  obtain ⟨vs,q1,q2⟩:=rel.cells i μ[i] (.lst xs) (by simp [hi]) e2
  exact ⟨_,vs,by simp [hi],q1,q2⟩
theorem Ybq {as:List Nat} (rel:Rel ct μ h H) {i:Nat} {b:Addr} (e:μ[i]?=some b) (hi:i∈as):¬ Liv μ (MP.kill as h) b:=fun ⟨j,c,e1,e2,nd⟩=>by
  have:i=j:=(List.getElem?_inj (List.getElem?_eq_some_iff.mp e).1 rel.nd).mp (e.trans e1.symm)
  subst this
  rcases Yag e2 with ⟨_,z⟩ | ⟨z,_⟩
  · exact nd z
  · exact z hi
theorem Yaj {as:List Nat} {g:MV→Option FV}:∀ {xs:List MV} {ys:List FV} {vs:List V},xs.mapM g=some ys→RVs ct μ (Liv μ h) H xs vs →
    (∀ x∈xs,∀ y v,g x=some y→RV ct μ (Liv μ h) H x v→RF ct (Liv μ (MP.kill as h)) H y v)→RFs ct (Liv μ (MP.kill as h)) H ys vs
  | [],ys,vs,e,r,_=>by
    simp at e; subst e; simp only [RVs] at r; subst r; simp only [RFs]
  | x::xs,ys,vs,e,r,f=>by
    simp only [List.mapM_cons,Option.bind_eq_bind,Option.bind_eq_some_iff,Option.pure_def,Option.some.injEq] at e
    obtain ⟨y,e1,zs,e2,rfl⟩:=e
    simp only [RVs] at r
    obtain ⟨v,t,rfl,r1,r2⟩:=r
    simp only [RFs]
    exact ⟨v,t,rfl,f x (by simp) y v e1 r1,Yaj e2 r2 fun z hz=>f z (by simp [hz])⟩
theorem ZaB (rel:Rel ct μ h H) {as:List Nat}:∀ (n:Nat) (m:MV) (x:FV) (v:V),(∀ a∈Qi h n m,a∈as)→Yj h n m=some x→RV ct μ (Liv μ h) H m v→RF ct (Liv μ (MP.kill as h)) H x v
  | 0,m,x,v,_,e,_=>by simp [Yj] at e
  | n + 1,.f y,x,v,_,e,r=>by
    simp [Yj] at e; subst e
    simp only [RV] at r
    exact RF.to (Ext.kill (H:=H) as).let r
  | n + 1,.tup xs,x,v,hs,e,r=>by
    simp only [Yj,Option.map_eq_some_iff] at e
    obtain ⟨ys,e1,rfl⟩:=e
    simp only [RV] at r
    obtain ⟨a,vs,rfl,na,rd,q⟩:=r
    simp only [RF]
    refine ⟨a,vs,rfl,fun l=>na l.kill,rd,Yaj e1 q fun z hz y u ez ru=>ZaB rel n z y u (fun a ha=>hs a ?_) ez ru⟩
    simp only [Qi,List.mem_flatMap]
    exact ⟨z,hz,ha⟩
  | n + 1,.ref i,x,v,hs,e,r=>by
    simp only [Yj,Option.bind_eq_some_iff,Option.map_eq_some_iff] at e
    obtain ⟨xs,e0,ys,e1,rfl⟩:=e
    simp only [RV] at r
    obtain ⟨b,eb,rfl⟩:=r
    obtain ⟨b',vs,eb',hb,q⟩:=rel.lst e0
    rw [eb] at eb'; cases eb'
    simp only [RF]
    refine ⟨b,vs,rfl,Ybq rel eb (hs i (by simp [Qi])),.inl hb,Yaj e1 q fun z hz y u ez ru=>ZaB rel n z y u (fun a ha=>hs a ?_) ez ru⟩
    simp only [Qi,e0,Option.getD_some,List.mem_cons,List.mem_flatMap]
    exact .inr ⟨z,hz,ha⟩
  | n + 1,.exc _,x,v,_,e,_=>by simp [Yj] at e
theorem Qbu {E:XK} {m:MV} {v:V} {k:MV→List Addr→MH→Hp→Prop} (rel:Rel ct μ h H) (r:RV ct μ (Liv μ h) H m v) (p:Po ct E (qB m h) μ h H k) :
    ∃ x h',Ext μ h H μ h' H∧Rel ct μ h' H∧RV ct μ (Liv μ h') H (.f x) v∧k (.f x) μ h' H:=by
  unfold qB at p
  obtain ⟨x,e,p⟩:=p.opt
  refine ⟨x,_,Ext.kill _,rel.kill _,?_,p.now' (Ext.kill _) (rel.kill _)⟩
  simp only [RV]
  exact ZaB rel 5 m x v (fun a ha=>ha) e r
end
mutual
noncomputable def Bel (n:Nat):MV→Prop
  | .ref i=>i < n
  | .tup xs=>Bels n xs
  | _=>True
noncomputable def Bels (n:Nat):List MV→Prop
  | []=>True
  | x::xs=>Bel n x∧Bels n xs
end
mutual
theorem RV.bel {μ:List Addr} {L:Addr→Prop} {H:Hp}:∀ {m:MV} {v:V},RV ct μ L H m v→Bel μ.length m
  | .f _,_,_=>by simp only [Bel]
  | .ref i,v,r=>by
    simp only [RV] at r
    obtain ⟨b,e,_⟩:=r
    simp only [Bel]; exact (List.getElem?_eq_some_iff.mp e).1
  | .tup xs,v,r=>by
    simp only [RV] at r
    obtain ⟨a,vs,_,_,_,q⟩:=r
    simp only [Bel]; exact RVs.bel q
  | .exc _,_,_=>by simp only [Bel]
theorem RVs.bel {μ:List Addr} {L:Addr→Prop} {H:Hp}:∀ {xs:List MV} {vs:List V},RVs ct μ L H xs vs→Bels μ.length xs
  | [],_,_=>by simp only [Bels]
  | x::xs,vs,r=>by
    simp only [RVs] at r
    obtain ⟨v,t,_,r1,r2⟩:=r
    simp only [Bels]; exact ⟨RV.bel r1,RVs.bel r2⟩
end
mutual
theorem RV.cut {μ ν:List Addr} {L L':Addr→Prop} {H:Hp} (l:∀ b,L' b→L b):∀ {m:MV} {v:V},Bel μ.length m→RV ct (μ++ν) L H m v→RV ct μ L' H m v
  | .f x,v,_,r=>by simp only [RV] at r ⊢; exact RF.to ⟨fun _ _ e _=>e,fun b _ _ n z=>n (l b z)⟩ r
  | .ref i,v,b,r=>by
    simp only [RV] at r ⊢
    simp only [Bel] at b
    obtain ⟨c,e,q⟩:=r
    rw [List.getElem?_append_left b] at e
    exact ⟨c,e,q⟩
  | .tup xs,v,b,r=>by
    simp only [RV] at r ⊢
    simp only [Bel] at b
    obtain ⟨a,vs,e,n,rd,q⟩:=r
    exact ⟨a,vs,e,fun z=>n (l a z),rd,RVs.cut l b q⟩
  | .exc _,v,_,r=>by
    simp only [RV] at r ⊢
    obtain ⟨a,e,n,q⟩:=r
    exact ⟨a,e,fun z=>n (l a z),q⟩
theorem RVs.cut {μ ν:List Addr} {L L':Addr→Prop} {H:Hp} (l:∀ b,L' b→L b):∀ {xs:List MV} {vs:List V},Bels μ.length xs→RVs ct (μ++ν) L H xs vs→RVs ct μ L' H xs vs
  | [],vs,_,r=>by simpa only [RVs] using r
  | x::xs,vs,b,r=>by
    simp only [RVs] at r ⊢
    simp only [Bels] at b
    obtain ⟨v,t,e,r1,r2⟩:=r
    exact ⟨v,t,e,RV.cut l b.1 r1,RVs.cut l b.2 r2⟩
end
theorem Bels.flat (n:Nat):∀ ys:List FV,Bels n (ys.map MV.f)
  | []=>by simp only [List.map_nil,Bels]
  | y::ys=>by simp only [List.map_cons,Bels,Bel]; exact ⟨trivial,Bels.flat n ys⟩
noncomputable def zaF (n:Nat):Cell→Prop
  | .lst xs=>Bels n xs
  | .obj _ fs=>Bels n (fs.map Prod.snd)
  | .dic _=>True
  | .tab _=>True
  | .code=>True
  | .dead=>True
theorem CellOk.bel {μ:List Addr} {L:Addr→Prop} {H:Hp} {b:Addr} {c:Cell} (r:CellOk ct μ L H b c):zaF μ.length c:=by
  cases c with
  | lst xs=>obtain ⟨vs,_,q⟩:=r; exact q.bel
  | obj c fs=>obtain ⟨dx,gs,_,_,q⟩:=r; exact q.bel
  | dic ks=>trivial
  | tab ks=>trivial
  | code=>trivial
  | dead=>trivial
theorem FlatC.bel {n:Nat} {c:Cell} (r:FlatC c):zaF n c:=by
  cases c with
  | lst xs=>obtain ⟨ys,rfl⟩:=r; exact Bels.flat n ys
  | obj c fs =>
    obtain ⟨ys,rfl⟩:=r
    show Bels n _
    rw [List.map_map]
    have:=Bels.flat n (ys.map Prod.snd)
    rw [List.map_map] at this
    exact this
  | dic ks=>trivial
  | tab ks=>trivial
  | code=>trivial
  | dead=>trivial
theorem CellOk.cut {μ ν:List Addr} {L L':Addr→Prop} {H:Hp} {b:Addr} {c:Cell} (l:∀ b,L' b→L b) (k:zaF μ.length c) (r:CellOk ct (μ++ν) L H b c):CellOk ct μ L' H b c:=by
  cases c with
  | lst xs=>obtain ⟨vs,e,q⟩:=r; exact ⟨vs,e,RVs.cut l k q⟩
  | obj c fs=>obtain ⟨dx,gs,e,q1,q⟩:=r; exact ⟨dx,gs,e,q1,RVs.cut l k q⟩
  | dic ks=>exact r
  | tab ks=>exact r
  | code=>exact ⟨r.1,r.2.imp id fun ⟨c',n1,n2,r⟩=>⟨c',n1,fun z=>n2 (l _ z),r⟩⟩
  | dead=>trivial
theorem za4:∀ {xs:List MV} {ys:List FV},Qh xs=some ys→xs=ys.map MV.f
  | [],ys,e=>by simp [Qh] at e; subst e; rfl
  | .f x::xs,ys,e=>by
    simp only [Qh,Option.map_eq_some_iff] at e
    obtain ⟨zs,e1,rfl⟩:=e
    rw [za4 e1]; rfl
  | .ref _::_,_,e=>by simp [Qh] at e
  | .tup _::_,_,e=>by simp [Qh] at e
  | .exc _::_,_,e=>by simp [Qh] at e
section
variable {μ ν:List Addr} {h h':MH} {H H':Hp}
theorem Liv.cut (hl:μ.length=h.length) {b:Addr} (l:Liv μ (h'.take h.length) b):Liv (μ++ν) h' b:=by
  obtain ⟨i,c,e1,e2,nd⟩:=l
  have hi:i < μ.length:=(List.getElem?_eq_some_iff.mp e1).1
  rw [List.getElem?_take_of_lt (by omega)] at e2
  exact ⟨i,c,by rw [List.getElem?_append_left hi]; exact e1,e2,nd⟩
theorem Ext.cut (hl:μ.length=h.length) (e:Ext μ h H (μ++ν) h' H'):Ext μ h H μ (h'.take h.length) H':=⟨⟨[],by simp⟩,e.keep,fun b l=>e.liv b (Liv.cut hl l)⟩
theorem Rel.cut (rel:Rel ct μ h H) (t:TrOk h h') (rel':Rel ct (μ++ν) h' H'):Rel ct μ (h'.take h.length) H':=by
  refine ⟨by rw [rel.len,List.length_take]; have:=t.1; omega,(List.nodup_append.mp rel'.nd).1,fun b hb=>rel'.has b (List.mem_append_left _ hb),fun i b c e1 e2=>?_⟩
  have hi:i < μ.length:=(List.getElem?_eq_some_iff.mp e1).1
  have hi':i < h.length:=by rw [← rel.len]; exact hi
  rw [List.getElem?_take_of_lt hi'] at e2
  refine CellOk.cut (fun b l=>Liv.cut rel.len l) ?_ (rel'.cells i b c (by rw [List.getElem?_append_left hi]; exact e1) e2)
  rcases t.2 i c hi' e2 with q | q
  · exact (rel.cells i b c e1 q).bel
  · exact FlatC.bel q
theorem ZaI {E:XK} {m:MV} {v:V} {Q:VK} (rel:Rel ct μ h H) (e:Ext μ h H (μ++ν) h' H') (rel':Rel ct (μ++ν) h' H') (r:RV ct (μ++ν) (Liv (μ++ν) h') H' m v) (p:Po ct E (qg h m h') μ h H (kV ct Q)):Q v H':=by
  unfold qg at p
  split at p
  next t =>
    cases m with
    | f x =>
      refine p μ H' (Ext.cut rel.len e) (rel.cut t rel') v ?_
      exact RV.cut (fun b l=>Liv.cut rel.len l) (by simp only [Bel]) r
    | ref a =>
      dsimp only at p
      split at p
      next ha =>
        split at p
        next xs ex =>
          split at p
          next ys ey =>
            simp only [RV] at r
            obtain ⟨b,eb,rfl⟩:=r
            obtain ⟨b',vs,eb',hb,q⟩:=rel'.lst ex
            rw [eb] at eb'; cases eb'
            have rc:=rel.cut t rel'
            have ec:=Ext.cut rel.len e
            have nb:b∉μ:=fun z=>by
              obtain ⟨j,hj,ej⟩:=List.getElem_of_mem z
              have:j=a:=(List.getElem?_inj (by simp; omega) rel'.nd).mp (by rw [List.getElem?_append_left hj,eb]; simp [hj,ej])
              have:=rel.len
              omega
            have lv:∀ d,Liv (μ++[b]) (h'.take h.length++[.lst xs]) d→Liv (μ++ν) h' d:=fun d l=>by
              rcases Liv.app (by rw [rc.len]) l with l | l
              · exact Liv.cut rel.len l
              · subst l; exact ⟨a,.lst xs,eb,zG ex,fun z=>nomatch z⟩
            have fl:RFs ct (Liv (μ++ν) h') H' ys vs:=RVs.toF ey q
            have xs':xs=ys.map MV.f:=za4 ey
            refine p (μ++[b]) H' ⟨⟨[b],rfl⟩,e.keep,fun d l=>e.liv d (lv d l)⟩ ?_ (.ref b) ?_
            · refine ⟨by simp [rc.len],?_,fun d hd=>?_,fun i d c e1 e2=>?_⟩
              · rw [List.nodup_append]
                exact ⟨rc.nd,by simp,fun x hx y hy z=>by simp at hy; subst hy; subst z; exact nb hx⟩
              · rcases List.mem_append.mp hd with hd | hd
                · exact rc.has d hd
                · simp at hd; subst hd; exact ⟨_,hb⟩
              · by_cases hi:i < μ.length
                · rw [List.getElem?_append_left hi] at e1
                  rw [List.getElem?_append_left (by rw [← rc.len]; exact hi)] at e2
                  have c0:=rc.cells i d c e1 e2
                  have hi':i < h.length:=by rw [← rel.len]; exact hi
                  have e2':=e2
                  rw [List.getElem?_take_of_lt hi'] at e2'
                  have c1:=rel'.cells i d c (by rw [List.getElem?_append_left hi]; exact e1) e2'
                  exact CellOk.to (ν:=[b]) (L:=Liv (μ++[b]) (h'.take h.length++[.lst xs])) ⟨fun _ _ e _=>e,fun _ _ _ n=>n⟩ (fun _=>rfl) (CellOk.cut lv c0.bel c1)
                · rw [List.getElem?_append_right (by omega)] at e1
                  rw [List.getElem?_append_right (by rw [← rc.len]; omega)] at e2
                  have z:i - μ.length=0:=by
                    have:=(List.getElem?_eq_some_iff.mp e1).1
                    simp at this; omega
                  have z2:i - (h'.take h.length).length=0:=by rw [← rc.len]; exact z
                  rw [z] at e1; rw [z2] at e2
                  simp at e1 e2
                  subst e1; subst e2
                  refine ⟨vs,hb,?_⟩
                  rw [xs']
                  rw [xs'] at lv
                  exact RVs.ofF (RFs.to ⟨fun _ _ e _=>e,fun d _ _ n l=>n (lv d l)⟩ fl)
            · simp only [RV]
              exact ⟨b,by rw [← rel.len]; simp,rfl⟩
          next=>exact p (μ++ν) H' e rel' v r
        next=>exact p (μ++ν) H' e rel' v r
      next=>exact p (μ++ν) H' e rel' v r
    | tup xs=>exact p (μ++ν) H' e rel' v r
    | exc c=>exact p (μ++ν) H' e rel' v r
  next=>exact p (μ++ν) H' e rel' v r
theorem Ybd {E:XK} {c:String} {k:MV→List Addr→MH→Hp→Prop} (rel:Rel ct μ h H) (e:Ext μ h H (μ++ν) h' H') (rel':Rel ct (μ++ν) h' H') (p:Po ct E (qK h c h') μ h H k):E (.ref (ct c)) none H':=by
  unfold qK at p
  split at p
  next t=>exact p μ H' (Ext.cut rel.len e) (rel.cut t rel')
  next=>exact p (μ++ν) H' e rel'
end
end
section
variable {ct:Tx} {X:Cx} {E:XK}
section
variable {μ:List Addr} {h:MH} {L:Addr→Prop} {H:Hp} {m:MV} {v:V}
theorem yg {i:Int} (e:qc m=some i):m=.f (.int i):=by
  unfold qc at e; split at e
  next=>cases e; rfl
  next=>cases e
theorem Qaa {i:Bool} (e:yB m=some i):m=.f (.bl i):=by
  unfold yB at e; split at e
  next=>cases e; rfl
  next=>cases e
theorem qj {i:Int} (r:RV ct μ L H (.f (.int i)) v):v=.int i:=by simpa only [RV,RF] using r
theorem YaI {i:Bool} (r:RV ct μ L H (.f (.bl i)) v):v=.bl i:=by simpa only [RV,RF] using r
theorem Qo (i:Int):RV ct μ L H (.f (.int i)) (.int i):=by simp only [RV,RF]
theorem zF (i:Bool):RV ct μ L H (.f (.bl i)) (.bl i):=by simp only [RV,RF]
theorem QbT (i:Str):RV ct μ L H (.f (.str i)) (.str i):=by simp only [RV,RF]
theorem QaD:RV ct μ L H (.f .non) .non:=by simp only [RV,RF]
theorem Yr {xs:List MV} (rel:Rel ct μ h H) (e:MP.listOf h m=some xs) (r:RV ct μ (Liv μ h) H m v):∃ a vs,v=.ref a∧Rd H a (.lst vs)∧RVs ct μ (Liv μ h) H xs vs:=by
  unfold MP.listOf at e; split at e
  next ys =>
    cases e
    simp only [RV,RF] at r
    obtain ⟨a,vs,e1,_,rd,q⟩:=r
    exact ⟨a,vs,e1,rd,RVs.ofF q⟩
  next i =>
    obtain ⟨b,vs,e1,e2,q⟩:=rel.lst e
    simp only [RV] at r
    obtain ⟨b',e3,rfl⟩:=r
    rw [e1] at e3; cases e3
    exact ⟨b,vs,rfl,.inl e2,q⟩
  next=>cases e
theorem Yu {xs:List MV} (e:Yk m=some xs) (r:RV ct μ L H m v):∃ a vs,v=.ref a∧¬ L a∧H a=some (.tup vs)∧RVs ct μ L H xs vs:=by
  unfold Yk at e; split at e
  next ys =>
    cases e
    simp only [RV,RF] at r
    obtain ⟨a,vs,e1,n,rd,q⟩:=r
    exact ⟨a,vs,e1,n,rd,RVs.ofF q⟩
  next ys =>
    cases e
    simp only [RV] at r
    exact r
  next=>cases e
theorem Qu {xs:List MV} (e:yb h m=some xs):Yk m=some xs∨MP.listOf h m=some xs∨∃ ns,m=.f (.scr ns)∧xs=ns.map fun i=>MV.f (.int i):=by
  unfold yb at e; split at e
  next=>exact .inl e
  next=>exact .inr (.inl e)
  next ns=>cases e; exact .inr (.inr ⟨ns,rfl,rfl⟩)
  next=>exact .inl e
  next=>exact .inr (.inl e)
  next=>cases e
noncomputable def SqR (ct:Tx) (H:Hp) (b:Bool) (a:Addr) (vs:List V):Prop:=SqS ct.K H b a vs
theorem SqR.s {K:PySem.W.Frag} {b:Bool} {a:Addr} {vs:List V} (hK:K=ct.K) (q:SqR ct H b a vs):SqS K H b a vs:=by rw [hK]; exact q
theorem YL {L:Addr→Prop}:∀ ns:List Int,RVs ct μ L H (ns.map fun i=>MV.f (.int i)) (ns.map V.int)
  | []=>by simp only [List.map_nil,RVs]
  | i::ns=>by
    simp only [List.map_cons,RVs]
    exact ⟨.int i,_,rfl,Qo i,YL ns⟩
theorem Zax {L:Addr→Prop} {a:Addr} {ns:List Int} (q:(¬ L a∧∃ o,H a=some (.frz o (.lst (ns.map V.int))))∨ScrK ct.K a ns):SqL ct.K H a (ns.map V.int):=q.elim (fun ⟨_,o,e⟩=>.inl (.inr ⟨o,e⟩)) .inr
theorem Yy {xs:List MV} (rel:Rel ct μ h H) (e:yb h m=some xs) (r:RV ct μ (Liv μ h) H m v):∃ b a vs,v=.ref a∧SqR ct H b a vs∧RVs ct μ (Liv μ h) H xs vs:=by
  rcases Qu e with e | e | ⟨ns,rfl,rfl⟩
  · obtain ⟨a,vs,q1,_,q2,q3⟩:=Yu e r
    exact ⟨true,a,vs,q1,SqT.of q2,q3⟩
  · obtain ⟨a,vs,q1,q2,q3⟩:=Yr rel e r
    exact ⟨false,a,vs,q1,.inl q2,q3⟩
  · simp only [RV,RF] at r
    obtain ⟨a,rfl,q⟩:=r
    exact ⟨false,a,_,rfl,Zax q,YL ns⟩
theorem Qaz (rel:Rel ct μ h H) {p:Addr} (hp:H p=none):¬ Liv μ h p:=fun l=>by obtain ⟨o,e⟩:=Liv.has rel l; rw [hp] at e; cases e
theorem YA {fz:Bool} {xs:List MV} {vs:List V} {Q:VK} (rel:Rel ct μ h H) (r:RVs ct μ (Liv μ h) H xs vs) (p:Po ct E (Zq fz xs h) μ h H (kV ct Q)):∀ a,H a=none→Q (.ref a) (upd H a (.lst vs)):=by
  intro a ha
  cases fz with
  | true =>
    obtain ⟨ys,e,p⟩:=Po.opt (o:=Qh xs) (g:=fun ys=>R.ok (MV.f (.lst ys)) h) p
    refine p μ _ (Ext.new rel ha _) (rel.new ha _) _ ?_
    simp only [RV,RF]
    exact ⟨a,vs,rfl,Qaz rel ha,.inl yd,RFs.to (Ext.new rel ha _).let (RVs.toF e r)⟩
  | false =>
    refine p (μ++[a]) _ (Ext.cell rel ha _ _) (rel.cell ha ?_) _ ?_
    · exact ⟨vs,yd,RVs.to (Ext.cell rel ha _ _).let r⟩
    · simp only [RV]
      exact ⟨a,by rw [← rel.len]; simp,rfl⟩
theorem YI {xs:List MV} {vs:List V} {a:Addr} (n:¬ L a) (rd:H a=some (.tup vs)) (r:RVs ct μ L H xs vs):RV ct μ L H (Zg xs) (.ref a):=by
  unfold Zg
  split
  next ys e =>
    simp only [RV,RF]
    exact ⟨a,vs,rfl,n,rd,RVs.toF e r⟩
  next =>
    simp only [RV]
    exact ⟨a,vs,rfl,n,rd,r⟩
theorem yS {xs:List MV} {vs:List V} {Q:VK} (rel:Rel ct μ h H) (r:RVs ct μ (Liv μ h) H xs vs) (p:Po ct E (.ok (Zg xs) h) μ h H (kV ct Q)):∀ a,H a=none→Q (.ref a) (upd H a (.tup vs)):=by
  intro a ha
  refine p μ _ (Ext.new rel ha _) (rel.new ha _) _ (YI (Qaz rel ha) yd ?_)
  have:=RVs.to (ν:=[]) (Ext.new rel ha (.tup vs)).let r
  simpa using this
end
noncomputable def r2 (ct:Tx) (E:XK) (g:MV→MV→MH→R MV):R2:=fun x y H Q=>∃ μ h mx my,Rel ct μ h H∧RV ct μ (Liv μ h) H mx x∧RV ct μ (Liv μ h) H my y∧Po ct E (g mx my h) μ h H (kV ct Q)
theorem qaN {i:Int} (h:i.natAbs < MP.big):Builtin.Int.intBits i≤2 ^ 20:=by
  refine intBits_le_iff.mpr (Nat.lt_of_lt_of_le h ?_)
  exact Nat.pow_le_pow_right (by decide) (by decide)
theorem ybH:OpR X (binaryOp .Mult) (rI Zw fun i j=>.int (i * j)):=opI fun i j _ _ _ _ _ hc q=>by
  refine mul_int q ?_
  rcases hc with c | c | ⟨c,d⟩
  · exact .of_left (intBits_le_64 (by omega) (by omega))
  · exact .of_right (intBits_le_64 (by omega) (by omega))
  · exact .of_bits (qaN c) (qaN d)
theorem qbo:OpR X (binaryOp .FloorDiv) (rI zau fun i j=>.int (i / j)):=opI fun i j _ _ _ _ _ hc q=>by
  have h1:(0:Int) < j:=hc.1
  refine floordiv_int (by omega) (by rw [Int.fdiv_eq_ediv_of_nonneg i (by omega)]; exact q) (.inl (PyProof.noPylong_of_log2 ?_))
  have:j.natAbs≠0:=by omega
  rcases hc.2 with c | c
  · have:j.natAbs.log2 < 30:=(Nat.log2_lt (by omega)).mpr (by omega)
    omega
  · have:j.natAbs.log2 < 4096:=(Nat.log2_lt (by omega)).mpr c
    omega
noncomputable def rCatR:R2:=fun x y H Q=>∃ l b xs zs,x=.ref l∧y=.ref b∧Rd H l (.lst xs)∧Rd H b (.lst zs)∧xs.length + zs.length≤sizeLine∧∀ p,H p=none→Q (.ref p) (upd H p (.lst (xs++zs)))
theorem zbK:OpR X (binaryOp .Add) rCatR:=by
  intro pins s σ H x y v u Q I rx ry h
  obtain ⟨l,b,xs,zs,rfl,rfl,hH,hB,hz,q⟩:=h
  cases rx
  cases ry
  obtain ⟨z,its,n,r,e⟩:=hH.ok I.hok
  obtain ⟨z2,its2,n2,r2,e2⟩:=hB.ok I.hok
  have hl:=r.length
  have hl2:=r2.length
  refine PySem.P.add_list e e2 ?_ (by rw [List.size_toArray,List.size_toArray]; omega)
  have ea:its.toArray++its2.toArray=(its++its2).toArray:=by simp
  rw [ea]
  exact ⟨.ref _,_,I.lnew (t':=s.toks) (r.append r2) (by rw [List.length_append]; omega),rfl,q _ I.fresh⟩
end
theorem qC:MP.sizeL≤sizeLine:=by decide
section
variable {ct:Tx} {X:Cx} {E:XK}
noncomputable def mOp:BO→Operator
  | .add=>.Add | .sub=>.Sub | .mul=>.Mult | .fdiv=>.FloorDiv | .mod=>.Mod | .pow=>.Pow
theorem OpR.imp {f:Value→Value→Sem Value} {r r':R2} (o:OpR X f r) (k:∀ x y H Q,r' x y H Q→r x y H Q):OpR X f r':=fun pins s σ H x y v u Q I rx ry q=>o pins s σ H x y v u Q I rx ry (k _ _ _ _ q)
theorem OpR.ors {f:Value→Value→Sem Value} {r r':R2} (o:OpR X f r) (o':OpR X f r'):OpR X f fun x y H Q=>r x y H Q∨r' x y H Q:=fun pins s σ H x y v u Q I rx ry q=>q.elim (o pins s σ H x y v u Q I rx ry) (o' pins s σ H x y v u Q I rx ry)
theorem YM {fz:Bool} {op:BO} {x y:V} {H:Hp} {Q:VK} (q:r2 ct E (zf fz op) x y H Q):(∃ i j k,x=.int i∧y=.int j∧ZB op i j=some k∧Q (.int k) H) ∨
    ∃ μ h mx my,qc mx=none∧Rel ct μ h H∧RV ct μ (Liv μ h) H mx x∧RV ct μ (Liv μ h) H my y∧Po ct E (zf fz op mx my h) μ h H (kV ct Q):=by
  obtain ⟨μ,h,mx,my,rel,rx,ry,p⟩:=q
  cases ex:qc mx with
  | none=>exact .inr ⟨μ,h,mx,my,ex,rel,rx,ry,p⟩
  | some i =>
    have:=yg ex; subst this
    cases ey:qc my with
    | none =>
      unfold zf at p
      rw [ex,ey] at p
      exact p.elim
    | some j =>
      have:=yg ey; subst this
      unfold zf at p
      rw [ex,ey] at p
      obtain ⟨k,e,p⟩:=Po.opt p
      refine .inl ⟨i,j,k,qj rx,qj ry,e,?_⟩
      exact p.now rel _ (Qo k)
theorem ZbT (fz:Bool):OpR X (binaryOp .Sub) (r2 ct E (zf fz .sub)):=OpR.imp YbZ fun x y H Q q=>by
  rcases YM q with ⟨i,j,k,e1,e2,e3,q⟩ | ⟨μ,h,mx,my,ex,rel,rx,ry,p⟩
  · cases e3; exact ⟨i,j,e1,e2,q⟩
  · exfalso; unfold zf at p; rw [ex] at p; cases ey:qc my <;> rw [ey] at p <;> exact p.elim
theorem QbK (fz:Bool):OpR X (binaryOp .FloorDiv) (r2 ct E (zf fz .fdiv)):=OpR.imp qbo fun x y H Q q=>by
  rcases YM q with ⟨i,j,k,e1,e2,e3,q⟩ | ⟨μ,h,mx,my,ex,rel,rx,ry,p⟩
  · simp only [ZB] at e3
    split at e3
    next c=>cases e3; exact ⟨i,j,e1,e2,c,q⟩
    next=>cases e3
  · exfalso; unfold zf at p; rw [ex] at p; cases ey:qc my <;> rw [ey] at p <;> exact p.elim
theorem Zb8 (fz:Bool):OpR X (binaryOp .Mod) (r2 ct E (zf fz .mod)):=OpR.imp yb0 fun x y H Q q=>by
  rcases YM q with ⟨i,j,k,e1,e2,e3,q⟩ | ⟨μ,h,mx,my,ex,rel,rx,ry,p⟩
  · simp only [ZB] at e3
    split at e3
    next c=>cases e3; exact ⟨i,j,e1,e2,c,q⟩
    next=>cases e3
  · exfalso; unfold zf at p; rw [ex] at p; cases ey:qc my <;> rw [ey] at p <;> exact p.elim
theorem Qca (fz:Bool):OpR X (binaryOp .Pow) (r2 ct E (zf fz .pow)):=OpR.imp Zb2 fun x y H Q q=>by
  rcases YM q with ⟨i,j,k,e1,e2,e3,q⟩ | ⟨μ,h,mx,my,ex,rel,rx,ry,p⟩
  · simp only [ZB] at e3
    split at e3
    next c=>cases e3; exact ⟨i,j,e1,e2,⟨c.1,c.2.1,c.2.2⟩,q⟩
    next=>cases e3
  · exfalso; unfold zf at p; rw [ex] at p; cases ey:qc my <;> rw [ey] at p <;> exact p.elim
noncomputable def rRepR:R2:=fun x y H Q=>∃ l k xs,x=.ref l∧y=.int k∧Rd H l (.lst xs)∧-(2 ^ 63)≤k∧k < 2 ^ 63∧xs.length * k.toNat≤sizeLine∧∀ p,H p=none→Q (.ref p) (upd H p (.lst (List.replicate k.toNat xs).flatten))
theorem YbE:OpR X (binaryOp .Mult) rRepR:=by
  intro pins s σ H x y v u Q I rx ry h
  obtain ⟨l,k,xs,rfl,rfl,hH,h1,h2,hz,q⟩:=h
  cases rx
  obtain ⟨t,rfl⟩:=ry
  obtain ⟨z,its,n,r,e⟩:=hH.ok I.hok
  have hl:=r.length
  have hlen:its.toArray.size * k.toNat≤sizeLine:=by rw [List.size_toArray,← hl]; exact hz
  have hcap:¬ its.toArray.size * k.toNat > (2 ^ 63 - 1) / 8:=by
    have:(sizeLine:Nat)≤(2 ^ 63 - 1) / 8:=by decide
    omega
  have hfit:¬ (!Builtin.List.listFitsIndex k)=true:=by
    rw [fitsIndex_both h1 h2]
    exact Bool.false_ne_true
  have hlong:¬ Builtin.List.listTooLong (its.toArray.size * k.toNat)=true:=by
    rw [QaM hlen]
    exact Bool.false_ne_true
  have hnew:List.foldl (fun x1 x2=>x1++x2) #[] (List.replicate (if its.toArray.isEmpty=true then 0 else k.toNat) its.toArray)=(List.replicate k.toNat its).flatten.toArray:=by
    have f0:∀ m:Nat,List.foldl (fun x1 x2=>x1++x2) #[] (List.replicate m its.toArray)=(List.replicate m its).flatten.toArray:=fun m=>by
      have:=Qas its m []
      rw [List.nil_append] at this
      exact this
    rw [f0]
    cases its with
    | nil=>simp
    | cons a r'=>rw [if_neg (by simp)]
  refine wpAny_binaryOp_repeat_ref (T:="list") (U:="int") (by decide) ⟨_,e,rfl⟩ (fun s'=>typeIs_int s' k t) noFill_list_mul F.fills_int_mul F.slot_int_rmul repeat_list F.slot_int_index.lookup
    (call_meets F.slot_int_rmul (typeIs_int s k t) F.entry_int_rmul (F.args_int_rmul_2 _ _) (int___rmul___int_list k t l its.toArray n)
      ⟨e,rfl,⟨_,e,rfl⟩,call_meets F.slot_list_mul ⟨_,e,rfl⟩ F.entry_list_mul (F.args_list_mul_2 _ _) (AutoListH.list___mul___list_int_3 l its.toArray n k t hfit hcap hlong) ⟨e,?_⟩⟩)
  rw [hnew]
  exact ⟨.ref _,_,I.lnew (t':=s.toks) (r.rep k.toNat) (by rw [QbE,Nat.mul_comm]; exact hz),rfl,q _ I.fresh⟩
theorem RVs.rep {μ:List Addr} {L:Addr→Prop} {H:Hp} {xs:List MV} {vs:List V} (r:RVs ct μ L H xs vs):∀ n:Nat,RVs ct μ L H (List.replicate n xs).flatten (List.replicate n vs).flatten
  | 0=>by simpa using RVs.nil
  | n + 1=>by simp only [List.replicate_succ,List.flatten_cons]; exact r.append (RVs.rep r n)
theorem Zb0 (fz:Bool):OpR X (binaryOp .Mult) (r2 ct E (zf fz .mul)):=OpR.imp (OpR.ors ybH YbE) fun x y H Q q=>by
  rcases YM q with ⟨i,j,k,e1,e2,e3,q⟩ | ⟨μ,h,mx,my,ex,rel,rx,ry,p⟩
  · simp only [ZB] at e3
    split at e3
    next c=>cases e3; exact .inl ⟨i,j,e1,e2,c,q⟩
    next=>cases e3
  · unfold zf at p; rw [ex] at p
    cases ey:qc my with
    | none=>rw [ey] at p; exact p.elim
    | some j =>
      rw [ey] at p
      have:=yg ey; subst this
      obtain ⟨xs,e,p⟩:=Po.opt p
      obtain ⟨a,vs,rfl,rd,rs⟩:=Yr rel e rx
      split at p
      next c =>
        have hl:=rs.length
        right
        refine ⟨a,j,vs,rfl,qj ry,rd,c.1,c.2.1,?_,YA rel (rs.rep _) p⟩
        rw [hl]; exact Nat.le_trans c.2.2 qC
      next=>exact p.elim
theorem Yb7 (fz:Bool):OpR X (binaryOp .Add) (r2 ct E (zf fz .add)):=OpR.imp (OpR.ors yb7 (OpR.ors QbG zbK)) fun x y H Q q=>by
  rcases YM q with ⟨i,j,k,e1,e2,e3,q⟩ | ⟨μ,h,mx,my,ex,rel,rx,ry,p⟩
  · cases e3; exact .inl ⟨i,j,e1,e2,q⟩
  · unfold zf at p; rw [ex] at p
    cases ey:qc my with
    | some j=>rw [ey] at p; exact p.elim
    | none =>
      rw [ey] at p
      dsimp only at p
      right
      split at p
      next xs ys e1 e2 =>
        split at p
        next c =>
          obtain ⟨a,vs,rfl,n1,rd1,r1⟩:=Yu e1 rx
          obtain ⟨b,ws,rfl,n2,rd2,r2⟩:=Yu e2 ry
          have h1:=r1.length
          have h2:=r2.length
          refine .inl ⟨a,b,vs,ws,rfl,rfl,.inl (.inl rd1),.inl (.inl rd2),fun z=>c.1 (List.eq_nil_of_length_eq_zero (by rw [← h1,z]; rfl)),by rw [h1,h2]; exact Nat.le_trans c.2 qC,fun z=>?_,fun z=>yS rel (r1.append r2) p⟩
          have:ys=[]:=List.eq_nil_of_length_eq_zero (by rw [← h2,z]; rfl)
          subst this
          rw [List.append_nil] at p
          exact p.now rel _ (YI n1 rd1 r1)
        next=>exact p.elim
      next =>
        obtain ⟨xs,e1,p⟩:=Po.opt p
        obtain ⟨ys,e2,p⟩:=Po.opt p
        split at p
        next c =>
          obtain ⟨a,vs,rfl,rd1,r1⟩:=Yr rel e1 rx
          obtain ⟨b,ws,rfl,rd2,r2⟩:=Yr rel e2 ry
          have h1:=r1.length
          have h2:=r2.length
          exact .inr ⟨a,b,vs,ws,rfl,rfl,rd1,rd2,by rw [h1,h2]; exact Nat.le_trans c qC,YA rel (r1.append r2) p⟩
        next=>exact p.elim
theorem qbS (fz:Bool):∀ op:BO,OpR X (binaryOp (mOp op)) (r2 ct E (zf fz op))
  | .add=>Yb7 fz | .sub=>ZbT fz | .mul=>Zb0 fz | .fdiv=>QbK fz | .mod=>Zb8 fz | .pow=>Qca fz
end
mutual
noncomputable def toP:FV→PyData
  | .non=>.none
  | .bl b=>.bool b
  | .int i=>.int i
  | .str s=>.str s
  | .tup xs=>.tuple (yq xs)
  | .lst xs=>.list (yq xs)
  | .obj _ _ _=>.none
  | .scr _=>.none
  | .tab _=>.none
noncomputable def yq:List FV→List PyData
  | []=>[]
  | x::xs=>toP x::yq xs
end
theorem qaO:∀ xs:List FV,yq xs=xs.map toP
  | []=>by simp [yq]
  | x::xs=>by simp [yq,qaO xs]
section
variable {ct:Tx} {X:Cx} {E:XK}
theorem Zab {n:Nat}:∀ xs:List FV,(∀ x∈xs,(toP x).canLay0=true∧(toP x).depth≤n)→PyData.canLayAll0 (yq xs)=true∧PyData.depthAll (yq xs)≤n
  | [],_=>by simp [yq,PyData.canLayAll0,PyData.depthAll]
  | x::xs,f=>by
    have h1:=f x (by simp)
    have h2:=Zab xs fun y hy=>f y (by simp [hy])
    simp only [yq,PyData.canLayAll0,PyData.depthAll,h1.1,h2.1,Bool.and_self,true_and]
    have a1:=h1.2
    have a2:=h2.2
    omega
theorem qac:∀ (n:Nat) (x:FV),isD n x=true→(toP x).canLay0=true∧(toP x).depth≤n
  | 0,x,e=>by cases x <;> simp [isD] at e
  | n + 1,.non,_=>by simp [toP,PyData.canLay0,PyData.depth]
  | n + 1,.bl _,_=>by simp [toP,PyData.canLay0,PyData.depth]
  | n + 1,.int _,_=>by simp [toP,PyData.canLay0,PyData.depth]
  | n + 1,.str s,e=>by
    have e':PyData.strOk s=true:=e
    simp [toP,PyData.canLay0,PyData.depth,e']
  | n + 1,.tup xs,e=>by
    have q:=Zab (n:=n) xs fun x hx=>qac n x (by simp [isD] at e; exact e x hx)
    have q2:=q.2
    simp only [toP,PyData.canLay0,PyData.depth,q.1,true_and]
    omega
  | n + 1,.lst xs,e=>by
    have q:=Zab (n:=n) xs fun x hx=>qac n x (by simp [isD] at e; exact e x hx)
    have q2:=q.2
    simp only [toP,PyData.canLay0,PyData.depth,q.1,true_and]
    omega
  | n + 1,.obj _ _ _,e=>by simp [isD] at e
  | n + 1,.scr _,e=>by simp [isD] at e
  | n + 1,.tab _,e=>by simp [isD] at e
theorem zN {x:FV} (e:isD 8 x=true):SeqAt.shaped (toP x)=true:=by
  have:=qac 8 x e
  unfold SeqAt.shaped
  rw [this.1,Bool.true_and]
  exact decide_eq_true (by have:=this.2; omega)
mutual
theorem Yaw:∀ (n:Nat) (x y:FV),isD n x=true→isD n y=true→PyData.eqv (toP x) (toP y)=eqD x y
  | 0,x,_,e,_=>by cases x <;> simp [isD] at e
  | n + 1,.tup xs,.tup ys,e,e'=>by
    simp only [toP,PyData.eqv,eqD]
    exact Zav n xs ys (by simpa [isD] using e) (by simpa [isD] using e')
  | n + 1,.lst xs,.lst ys,e,e'=>by
    simp only [toP,PyData.eqv,eqD]
    exact Zav n xs ys (by simpa [isD] using e) (by simpa [isD] using e')
  | n + 1,.non,y,e,e'=>by cases y <;> simp_all [isD,toP,PyData.eqv,eqD]
  | n + 1,.bl _,y,e,e'=>by cases y <;> simp_all [isD,toP,PyData.eqv,eqD]
  | n + 1,.int _,y,e,e'=>by cases y <;> simp_all [isD,toP,PyData.eqv,eqD]
  | n + 1,.str _,y,e,e'=>by cases y <;> simp_all [isD,toP,PyData.eqv,eqD]
  | n + 1,.tup _,.non,e,e'=>by simp [toP,PyData.eqv,eqD]
  | n + 1,.tup _,.bl _,e,e'=>by simp [toP,PyData.eqv,eqD]
  | n + 1,.tup _,.int _,e,e'=>by simp [toP,PyData.eqv,eqD]
  | n + 1,.tup _,.str _,e,e'=>by simp [toP,PyData.eqv,eqD]
  | n + 1,.tup _,.lst _,e,e'=>by simp [toP,PyData.eqv,eqD]
  | n + 1,.tup _,.obj _ _ _,e,e'=>by simp [isD] at e'
  | n + 1,.tup _,.scr _,e,e'=>by simp [isD] at e'
  | n + 1,.tup _,.tab _,e,e'=>by simp [isD] at e'
  | n + 1,.lst _,.non,e,e'=>by simp [toP,PyData.eqv,eqD]
  | n + 1,.lst _,.bl _,e,e'=>by simp [toP,PyData.eqv,eqD]
  | n + 1,.lst _,.int _,e,e'=>by simp [toP,PyData.eqv,eqD]
  | n + 1,.lst _,.str _,e,e'=>by simp [toP,PyData.eqv,eqD]
  | n + 1,.lst _,.tup _,e,e'=>by simp [toP,PyData.eqv,eqD]
  | n + 1,.lst _,.obj _ _ _,e,e'=>by simp [isD] at e'
  | n + 1,.lst _,.scr _,e,e'=>by simp [isD] at e'
  | n + 1,.lst _,.tab _,e,e'=>by simp [isD] at e'
  | n + 1,.obj _ _ _,_,e,_=>by simp [isD] at e
  | n + 1,.scr _,_,e,_=>by simp [isD] at e
  | n + 1,.tab _,_,e,_=>by simp [isD] at e
theorem Zav:∀ (n:Nat) (xs ys:List FV),(∀ x∈xs,isD n x=true)→(∀ y∈ys,isD n y=true)→PyData.eqvAll (yq xs) (yq ys)=Yap xs ys
  | n,[],[],_,_=>by simp [yq,PyData.eqvAll,Yap]
  | n,[],_::_,_,_=>by simp [yq,PyData.eqvAll,Yap]
  | n,_::_,[],_,_=>by simp [yq,PyData.eqvAll,Yap]
  | n,x::xs,y::ys,e,e'=>by
    simp only [yq,PyData.eqvAll,Yap]
    rw [Yaw n x y (e x (by simp)) (e' y (by simp)),Zav n xs ys (fun z hz=>e z (by simp [hz])) (fun z hz=>e' z (by simp [hz]))]
end
mutual
theorem zD {P:Program} {w:World} {L:Addr→Prop} {H:Hp} {hp:Heap} (hok:HOk P w H hp):∀ (n:Nat) (x:FV) (v:V) (u:Value),isD n x=true→RF ct L H x v→RelV v u→∃ as,Reads hp u (toP x) as
  | 0,x,_,_,e,_,_=>by cases x <;> simp [isD] at e
  | n + 1,.non,v,u,_,r,q=>by simp only [RF] at r; subst r; cases q; exact ⟨_,.none⟩
  | n + 1,.bl _,v,u,_,r,q=>by simp only [RF] at r; subst r; cases q; exact ⟨_,.bool _⟩
  | n + 1,.int _,v,u,_,r,q=>by simp only [RF] at r; subst r; obtain ⟨t,rfl⟩:=q; exact ⟨_,.int _ _⟩
  | n + 1,.str _,v,u,_,r,q=>by simp only [RF] at r; subst r; obtain ⟨t,rfl⟩:=q; exact ⟨_,.str _ _⟩
  | n + 1,.tup xs,v,u,e,r,q=>by
    simp only [RF] at r
    obtain ⟨a,vs,rfl,_,rd,rs⟩:=r
    cases q
    obtain ⟨z,its,rv,o,e1,e2,k,e3⟩:=(Rd.of rd).ok hok
    obtain ⟨as,ra⟩:=qu hok n xs vs its (by simpa [isD] using e) rs rv
    exact ⟨as,reads_tuple_at e1 e2 e3 ra⟩
  | n + 1,.lst xs,v,u,e,r,q=>by
    simp only [RF] at r
    obtain ⟨a,vs,rfl,_,rd,rs⟩:=r
    cases q
    obtain ⟨z,its,k,rv,e1⟩:=rd.ok hok
    obtain ⟨as,ra⟩:=qu hok n xs vs its (by simpa [isD] using e) rs rv
    exact ⟨_,reads_list_at e1 rfl rfl ra⟩
  | n + 1,.obj _ _ _,_,_,e,_,_=>by simp [isD] at e
  | n + 1,.scr _,_,_,e,_,_=>by simp [isD] at e
  | n + 1,.tab _,_,_,e,_,_=>by simp [isD] at e
theorem qu {P:Program} {w:World} {L:Addr→Prop} {H:Hp} {hp:Heap} (hok:HOk P w H hp):∀ (n:Nat) (xs:List FV) (vs:List V) (us:List Value),(∀ x∈xs,isD n x=true)→RFs ct L H xs vs→Vals vs us→∃ as,ReadsAll hp us (yq xs) as
  | n,[],vs,us,_,r,q=>by simp only [RFs] at r; subst r; cases q; exact ⟨[],by simpa only [yq] using ReadsAll.nil⟩
  | n,x::xs,vs,us,e,r,q=>by
    simp only [RFs] at r
    obtain ⟨v,t,rfl,r1,r2⟩:=r
    cases q with
    | cons q1 q2 =>
      obtain ⟨as,h1⟩:=zD hok n x v _ (e x (by simp)) r1 q1
      obtain ⟨bs,h2⟩:=qu hok n xs t _ (fun z hz=>e z (by simp [hz])) r2 q2
      exact ⟨as++bs,by simp only [yq]; exact .cons h1 h2⟩
end
noncomputable abbrev noL:Addr→Prop:=fun _=>False
section
variable {μ:List Addr} {h:MH} {H:Hp}
theorem yL {g:MV→Option FV}:∀ {xs:List MV} {ys:List FV} {vs:List V},xs.mapM g=some ys→RVs ct μ (Liv μ h) H xs vs →
    (∀ x∈xs,∀ y v,g x=some y→RV ct μ (Liv μ h) H x v→RF ct noL H y v)→RFs ct noL H ys vs
  | [],ys,vs,e,r,_=>by
    simp at e; subst e; simp only [RVs] at r; subst r; simp only [RFs]
  | x::xs,ys,vs,e,r,f=>by
    simp only [List.mapM_cons,Option.bind_eq_bind,Option.bind_eq_some_iff,Option.pure_def,Option.some.injEq] at e
    obtain ⟨y,e1,zs,e2,rfl⟩:=e
    simp only [RVs] at r
    obtain ⟨v,t,rfl,r1,r2⟩:=r
    simp only [RFs]
    exact ⟨v,t,rfl,f x (by simp) y v e1 r1,yL e2 r2 fun z hz=>f z (by simp [hz])⟩
theorem qp (rel:Rel ct μ h H):∀ (n:Nat) (m:MV) (x:FV) (v:V),Yj h n m=some x→RV ct μ (Liv μ h) H m v→RF ct noL H x v
  | 0,m,x,v,e,_=>by simp [Yj] at e
  | n + 1,.f y,x,v,e,r=>by
    simp [Yj] at e; subst e
    simp only [RV] at r
    exact RF.to ⟨fun _ _ e _=>e,fun _ _ _ _ z=>z⟩ r
  | n + 1,.tup xs,x,v,e,r=>by
    simp only [Yj,Option.map_eq_some_iff] at e
    obtain ⟨ys,e1,rfl⟩:=e
    simp only [RV] at r
    obtain ⟨a,vs,rfl,na,rd,q⟩:=r
    simp only [RF]
    exact ⟨a,vs,rfl,fun z=>z,rd,yL e1 q fun z hz y u ez ru=>qp rel n z y u ez ru⟩
  | n + 1,.ref i,x,v,e,r=>by
    simp only [Yj,Option.bind_eq_some_iff,Option.map_eq_some_iff] at e
    obtain ⟨xs,e0,ys,e1,rfl⟩:=e
    simp only [RV] at r
    obtain ⟨b,eb,rfl⟩:=r
    obtain ⟨b',vs,eb',hb,q⟩:=rel.lst e0
    rw [eb] at eb'; cases eb'
    simp only [RF]
    exact ⟨b,vs,rfl,fun z=>z,.inl hb,yL e1 q fun z hz y u ez ru=>qp rel n z y u ez ru⟩
  | n + 1,.exc _,x,v,e,_=>by simp [Yj] at e
end
noncomputable def YY:CO→CmpOp
  | .lt=>.Lt | .le=>.LtE | .gt=>.Gt | .ge=>.GtE | .eq=>.Eq | .ne=>.NotEq | .inn=>.In | .nin=>.NotIn
noncomputable def yan (ct:Tx) (op:CO):R2:=fun x y H Q=>∃ μ h mx my b,Rel ct μ h H∧RV ct μ (Liv μ h) H mx x∧RV ct μ (Liv μ h) H my y∧qx op mx my h=some b∧Q (.bl b) H
theorem zT {op:CO} {x y:V} {H:Hp} {Q:VK} (ho:∀ mx my h,qx op mx my h=(qc mx).bind fun i=>(qc my).bind fun j=>zP op i j) (q:yan ct op x y H Q):∃ i j b,x=.int i∧y=.int j∧zP op i j=some b∧Q (.bl b) H:=by
  obtain ⟨μ,h,mx,my,b,rel,rx,ry,e,q⟩:=q
  rw [ho] at e
  simp only [Option.bind_eq_some_iff] at e
  obtain ⟨i,e1,j,e2,e3⟩:=e
  have:=yg e1; subst this
  have:=yg e2; subst this
  exact ⟨i,j,b,qj rx,qj ry,e3,q⟩
theorem oc_lt:OpR X (compareOp .Lt) (yan ct .lt):=OpR.imp op_lt fun x y H Q q=>by
  obtain ⟨i,j,b,e1,e2,e3,q⟩:=zT (fun _ _ _=>rfl) q
  cases e3; exact ⟨i,j,e1,e2,q⟩
theorem oc_le:OpR X (compareOp .LtE) (yan ct .le):=OpR.imp op_le fun x y H Q q=>by
  obtain ⟨i,j,b,e1,e2,e3,q⟩:=zT (fun _ _ _=>rfl) q
  cases e3; exact ⟨i,j,e1,e2,q⟩
theorem oc_gt:OpR X (compareOp .Gt) (yan ct .gt):=OpR.imp op_gt fun x y H Q q=>by
  obtain ⟨i,j,b,e1,e2,e3,q⟩:=zT (fun _ _ _=>rfl) q
  cases e3; exact ⟨i,j,e1,e2,q⟩
theorem oc_ge:OpR X (compareOp .GtE) (yan ct .ge):=OpR.imp op_ge fun x y H Q q=>by
  obtain ⟨i,j,b,e1,e2,e3,q⟩:=zT (fun _ _ _=>rfl) q
  cases e3; exact ⟨i,j,e1,e2,q⟩
theorem qaQ {x y:FV} {b:Bool} (e:eqF x y=some b):isD 8 x=true∧isD 8 y=true∧eqD x y=b:=by
  unfold eqF at e
  split at e
  next c=>cases e; exact ⟨c.1,c.2,rfl⟩
  next=>cases e
theorem oc_eq (hu:X.A.units + 65 < cLine):OpR X (compareOp .Eq) (yan ct .eq):=by
  intro pins s σ H x y v u Q I rx ry q
  obtain ⟨μ,h,mx,my,b,rel,r1,r2,e,q⟩:=q
  simp only [qx,Option.bind_eq_some_iff] at e
  obtain ⟨a,e1,c,e2,e3⟩:=e
  obtain ⟨d1,d2,e4⟩:=qaQ e3
  obtain ⟨as,ra⟩:=zD I.hok 8 a x v d1 (qp rel 5 mx a x e1 r1) rx
  obtain ⟨bs,rb⟩:=zD I.hok 8 c y u d2 (qp rel 5 my c y e2 r2) ry
  refine eq_dataH ra rb (zN d1) (zN d2) (by omega) ?_
  rw [Yaw 8 a c d1 d2,e4]
  exact ⟨.bl b,H,I,rfl,q⟩
theorem oc_ne (hu:X.A.units + 65 < cLine):OpR X (compareOp .NotEq) (yan ct .ne):=by
  intro pins s σ H x y v u Q I rx ry q
  obtain ⟨μ,h,mx,my,b,rel,r1,r2,e,q⟩:=q
  simp only [qx,Option.bind_eq_some_iff,Option.map_eq_some_iff] at e
  obtain ⟨a,e1,c,e2,b',e3,rfl⟩:=e
  obtain ⟨d1,d2,e4⟩:=qaQ e3
  obtain ⟨as,ra⟩:=zD I.hok 8 a x v d1 (qp rel 5 mx a x e1 r1) rx
  obtain ⟨bs,rb⟩:=zD I.hok 8 c y u d2 (qp rel 5 my c y e2 r2) ry
  refine ne_dataH ra rb (zN d1) (zN d2) (by omega) ?_
  rw [Yaw 8 a c d1 d2,e4]
  exact ⟨.bl _,H,I,rfl,q⟩
end
end SD
end
section
namespace HT
open PySem PyProof.Rows
section
variable {prog:Program} {w:World} {A:Around} {E:Value→Shared→Prop} {s:Shared}
theorem getItem_tuple_whole {t sl:Addr} {items:Array Value} {vl vu:Value} {lo hi:Option Int} {Q:Value→Shared→Prop} (ht:IsTup s.heap t items) (hs:s.heap.IsSliceOf sl vl vu .none) (pl:IsPart vl lo) (pu:IsPart vu hi)
    (hw:sIx items.size 0 lo=0∧sIx items.size items.size hi=items.size) (h:Q (.ref t) s):wpAny (model prog w) A (getItem (.ref t) (.ref sl)) Q E s:=by
  obtain ⟨os,hos,hcs,hds⟩:=id hs
  have hTs:s.TypeIs (.ref sl) "slice":=⟨os,hos,hcs⟩
  unfold getItem
  try with_reducible refine wpAny_holding ?_
  first | refine wpAny_bind (wpAny_pure ?_) | skip
  refine wpAny_bind (wpAny_sequenceKey ht.typeIs (by decide) ?_)
  refine wpAny_bind (wpAny_callSpecial?_slot (name:=Str.ofString "__getitem__") ht.typeIs PyProof.Rows.slot_tuple_getitem
    (wpAny_call_entry PyProof.Rows.slot_tuple_getitem ht.typeIs entry_tuple_getitem ?_ (args_tuple_getitem _ _)))
  show wpAny _ _ (Builtin.Tuple.tupleItemsOf (.ref t) >>= _) _ _ s
  refine wpAny_bind (tupleItemsOf_ ht ?_)
  refine wpAny_bind (wpAny_typeOf hTs ?_)
  rw [if_pos (by decide)]
  refine wpAny_bind (yC hs pl pu ?_)
  have hyes:(((sIx items.size 0 lo:Nat):Int) == 0&&(1:Int) == 1&&(sIx items.size items.size hi - sIx items.size 0 lo) == items.size)=true:=by
    rw [hw.1,hw.2]; simp
  show wpAny _ _ (if (((sIx items.size 0 lo:Nat):Int) == 0&&(1:Int) == 1&&(sIx items.size items.size hi - sIx items.size 0 lo) == items.size)=true then _ else _) _ _ s
  rw [if_pos hyes]
  unfold Builtin.Tuple.tupleIsExact
  refine wpAny_bind (wpAny_bind (wpAny_typeOf ht.typeIs (wpAny_pure ?_)))
  rw [if_pos (by decide)]
  first
    | exact wpAny_bind (wpAny_rule (wpAny_bind (wpAny_pure (wpAny_pure ⟨_,rfl,wpAny_pure h⟩))))
    | exact wpAny_bind (wpAny_rule (wpAny_pure ⟨_,rfl,wpAny_pure h⟩))
    | exact wpAny_bind (wpAny_rule (wpAny_bind (wpAny_pure ⟨_,rfl,wpAny_pure h⟩)))
end
end HT
namespace SD
open PySem PySem.Spec PyProof.Rows L2 L3 M3 MP
section
variable {ct:Tx} {X:Cx} {E:XK}
theorem zbk {x:FV} {ys:List FV} {b:Bool} (e:inF x ys=some b):isD 8 x=true∧(∀ y∈ys,isD 8 y=true)∧ys.any (fun y=>eqD y x)=b:=by
  unfold inF at e
  split at e
  next c=>cases e; exact ⟨c.1,by simpa using c.2,rfl⟩
  next=>cases e
theorem ZbA {x:FV} {ys:List FV} (hx:isD 8 x=true) (hy:∀ y∈ys,isD 8 y=true):(yq ys).any (fun y=>PyData.eqv y (toP x))=ys.any fun y=>eqD y x:=by
  rw [qaO,List.any_map]
  induction ys with
  | nil=>rfl
  | cons y ys ih =>
    simp only [List.any_cons,Function.comp_apply]
    rw [Yaw 8 y x (hy y (by simp)) hx,ih fun z hz=>hy z (by simp [hz])]
theorem qaq {μ:List Addr} {h:MH} {H:Hp} {mx my:MV} {ys:List MV} {a:FV} {bs:List FV} {x y:V} {v u:Value} {b:Bool} {pins:List (Addr×Obj)} {σ:L2.St} {s:Shared} (hK:X.K=ct.K) (I:Inv X pins σ H s) (rel:Rel ct μ h H) (rx:RelV x v) (ry:RelV y u)
    (r1:RV ct μ (Liv μ h) H mx x) (r2:RV ct μ (Liv μ h) H my y) (e1:ZD h mx=some a) (e2:yb h my=some ys) (e3:ys.mapM (ZD h)=some bs) (e4:inF a bs=some b) :
    (∃ as as',(Reads s.heap u (.list (yq bs)) as∨Reads s.heap u (.tuple (yq bs)) as)∧Reads s.heap v (toP a) as')∧PyData.canLayAll0 (yq bs)=true∧(toP a).canLay0=true∧PyData.depthAll (yq bs)≤8∧(yq bs).any (fun y=>PyData.eqv y (toP a))=b:=by
  obtain ⟨d1,d2,e5⟩:=zbk e4
  obtain ⟨as',ra⟩:=zD I.hok 8 a x v d1 (qp rel 5 mx a x e1 r1) rx
  obtain ⟨k,p,vs,rfl,sq,rs⟩:=Yy rel e2 r2
  cases ry
  have rf:RFs ct noL H bs vs:=yL e3 rs fun z hz y u ez ru=>qp rel 5 z y u ez ru
  have ll:=Zab (n:=8) bs fun y hy=>qac 8 y (d2 y hy)
  refine ⟨?_,ll.1,(qac 8 a d1).1,ll.2,by rw [ZbA d1 d2]; exact e5⟩
  cases k with
  | true =>
    obtain ⟨its,rv,⟨o,q1,q2,n,q3⟩,_⟩:=I.tuple (show SqT X.K H p vs from sq.s hK)
    obtain ⟨as,rb⟩:=qu I.hok 8 bs vs its d2 rf rv
    exact ⟨as,as',.inr (reads_tuple_at q1 q2 q3 rb),ra⟩
  | false =>
    obtain ⟨its,rv,⟨o,n,q1,q2,_,q3⟩,_⟩:=I.list (show SqL X.K H p vs from sq.s hK)
    obtain ⟨as,rb⟩:=qu I.hok 8 bs vs its d2 rf rv
    exact ⟨_,as',.inl (reads_list_at q1 q2 q3 rb),ra⟩
theorem oc_in (hK:X.K=ct.K) (hu:X.A.units + 65 < cLine):OpR X (compareOp .In) (yan ct .inn):=by
  intro pins s σ H x y v u Q I rx ry q
  obtain ⟨μ,h,mx,my,b,rel,r1,r2,e,q⟩:=q
  simp only [qx,Option.bind_eq_some_iff] at e
  obtain ⟨a,e1,ys,e2,bs,e3,e4⟩:=e
  obtain ⟨⟨as,as',rb,ra⟩,l1,l2,l3,e5⟩:=qaq hK I rel rx ry r1 r2 e1 e2 e3 e4
  rcases rb with rb | rb
  · exact SeqAt.in_list_reads rb ra l1 l2 (by have:=Nat.min_le_left (PyData.depthAll (yq bs)) (toP a).depth; omega) (by rw [e5]; exact ⟨.bl b,H,I,rfl,q⟩)
  · exact SeqAt.in_tuple_reads rb ra l1 l2 (by have:=Nat.min_le_left (PyData.depthAll (yq bs)) (toP a).depth; omega) (by rw [e5]; exact ⟨.bl b,H,I,rfl,q⟩)
theorem Yb8 (hK:X.K=ct.K) (hu:X.A.units + 65 < cLine):OpR X (compareOp .NotIn) (yan ct .nin):=by
  intro pins s σ H x y v u Q I rx ry q
  obtain ⟨μ,h,mx,my,b,rel,r1,r2,e,q⟩:=q
  simp only [qx,Option.bind_eq_some_iff,Option.map_eq_some_iff] at e
  obtain ⟨a,e1,ys,e2,bs,e3,b',e4,rfl⟩:=e
  obtain ⟨⟨as,as',rb,ra⟩,l1,l2,l3,e5⟩:=qaq hK I rel rx ry r1 r2 e1 e2 e3 e4
  rcases rb with rb | rb
  · exact SeqAt.notIn_list_reads rb ra l1 l2 (by have:=Nat.min_le_left (PyData.depthAll (yq bs)) (toP a).depth; omega) (by rw [e5]; exact ⟨.bl _,H,I,rfl,q⟩)
  · exact SeqAt.notIn_tuple_reads rb ra l1 l2 (by have:=Nat.min_le_left (PyData.depthAll (yq bs)) (toP a).depth; omega) (by rw [e5]; exact ⟨.bl _,H,I,rfl,q⟩)
theorem Y2 (hK:X.K=ct.K) (hu:X.A.units + 65 < cLine):∀ op:CO,OpR X (compareOp (YY op)) (yan ct op)
  | .lt=>oc_lt | .le=>oc_le | .gt=>oc_gt | .ge=>oc_ge | .eq=>oc_eq hu | .ne=>oc_ne hu | .inn=>oc_in hK hu | .nin=>Yb8 hK hu
theorem Zbk (n:Nat) (i:Int):ixM n i=ixN n i:=rfl
noncomputable def rIxM (ct:Tx):R2:=fun x y H Q=>∃ μ h mx k xs m,Rel ct μ h H∧RV ct μ (Liv μ h) H mx x∧y=.int k∧yb h mx=some xs∧atM xs k=some m∧∀ v,RV ct μ (Liv μ h) H m v→Q v H
theorem QbB (hK:X.K=ct.K):IxR X (rIxM ct):=by
  intro value slice pins s σ H x y v u Q I rx ry q hs
  obtain ⟨μ,h,mx,k,xs,m,rel,r,rfl,e1,e2,q⟩:=q
  obtain ⟨b,a,vs,rfl,sq,rs⟩:=Yy rel e1 r
  unfold atM at e2
  rw [Option.bind_eq_some_iff] at e2
  obtain ⟨j,e3,e4⟩:=e2
  obtain ⟨w,ew,rw_⟩:=rs.get e4
  refine k_ix X.K rfl value slice pins s σ H (.ref a) (.int k) v u Q I rx ry ⟨b,a,vs,k,w,rfl,rfl,sq.s hK,?_,q w rw_⟩ hs
  unfold atI
  rw [rs.length,← Zbk,e3]
  exact ew
theorem yay {μ:List Addr} {L:Addr→Prop} {H:Hp} {xs:List MV} {vs:List V} (r:RVs ct μ L H xs vs) (lo hi:Option Int):RVs ct μ L H (yW xs lo hi) (yaO vs lo hi):=by
  unfold yW yaO
  rw [r.length]
  exact (r.drop _).take _
noncomputable def rSlM (ct:Tx) (E:XK) (fz:Bool):V→Option Int→Option Int→Hp→VK→Prop:=fun x lo hi H Q=>∃ μ h m,Rel ct μ h H∧RV ct μ (Liv μ h) H m x∧Po ct E (Y0 fz m lo hi h) μ h H (kV ct Q)
theorem qbB (hK:X.K=ct.K) (fz:Bool):SlR X (rSlM ct E fz):=by
  intro pins s σ H x v vl vu lo hi sl Q I rx hs pl pu q
  obtain ⟨μ,h,m,rel,r,p⟩:=q
  unfold Y0 at p
  split at p
  next xs e =>
    obtain ⟨a,vs,rfl,n,rd,rs⟩:=Yu e r
    by_cases hw:HT.sIx vs.length 0 lo=0∧HT.sIx vs.length vs.length hi=vs.length
    · cases rx
      obtain ⟨its,rv,ht,hz⟩:=I.tuple (show SqT X.K H a vs from .inl (.inl rd))
      have hlen:its.toArray.size=vs.length:=by rw [List.size_toArray]; exact rv.length.symm
      refine ⟨"tuple",_,PyProof.Rows.slot_tuple_getitem.lookup,ht.typeIs,HT.getItem_tuple_whole ht hs pl pu (by rw [hlen]; exact hw) ?_⟩
      have hc:yW xs lo hi=xs:=by
        have hl:=rs.length
        unfold yW
        show (xs.drop (HT.sIx xs.length 0 lo)).take (HT.sIx xs.length xs.length hi - HT.sIx xs.length 0 lo)=xs
        rw [← hl,hw.1,hw.2,List.drop_zero,Nat.sub_zero,hl,List.take_length]
      rw [hc] at p
      exact ⟨.ref a,H,I,rfl,p.now rel _ (YI n rd rs)⟩
    · exact qb7 pins s σ H (.ref a) v vl vu lo hi sl Q I rx hs pl pu ⟨a,vs,rfl,.inl (.inl rd),hw,yS rel (yay rs lo hi) p⟩
  next e =>
    obtain ⟨xs,e1,p⟩:=Po.opt p
    rcases Qu e1 with e2 | e2 | ⟨ns,rfl,rfl⟩
    · rw [e] at e2; cases e2
    · obtain ⟨a,vs,rfl,rd,rs⟩:=Yr rel e2 r
      exact qa1 pins s σ H (.ref a) v vl vu lo hi sl Q I rx hs pl pu ⟨a,vs,rfl,.inl rd,YA rel (yay rs lo hi) p⟩
    · simp only [RV,RF] at r
      obtain ⟨a,rfl,q⟩:=r
      exact qa1 pins s σ H (.ref a) v vl vu lo hi sl Q I rx hs pl pu ⟨a,_,rfl,by rw [hK]; exact Zax q,YA rel (yay (YL ns) lo hi) p⟩
end
section
variable {ct:Tx} {X:Cx} {E:XK}
theorem CallR.imp {f:Value} {r r':List V→Hp→VK→Prop} (o:CallR X f r) (k:∀ xs H Q,r' xs H Q→r xs H Q):CallR X f r':=fun pins s σ H xs us Q I rv q=>o pins s σ H xs us Q I rv (k _ _ _ q)
theorem CallR.ors {f:Value} {r r':List V→Hp→VK→Prop} (o:CallR X f r) (o':CallR X f r'):CallR X f fun xs H Q=>r xs H Q∨r' xs H Q:=fun pins s σ H xs us Q I rv q=>q.elim (o pins s σ H xs us Q I rv) (o' pins s σ H xs us Q I rv)
noncomputable def rB (ct:Tx) (E:XK) (fz:Bool) (n:String):List V→Hp→VK→Prop:=fun vs H Q=>∃ μ h ms,Rel ct μ h H∧RVs ct μ (Liv μ h) H ms vs∧Po ct E (Yv fz n ms h) μ h H (kV ct Q)
theorem Yw {μ:List Addr} {L:Addr→Prop} {H:Hp} {m:MV} {vs:List V} (r:RVs ct μ L H [m] vs):∃ v,vs=[v]∧RV ct μ L H m v:=by
  simp only [RVs] at r
  obtain ⟨v,t,rfl,r1,rfl⟩:=r
  exact ⟨v,rfl,r1⟩
theorem qaa {μ:List Addr} {L:Addr→Prop} {H:Hp} {m m':MV} {vs:List V} (r:RVs ct μ L H [m,m'] vs):∃ v v',vs=[v,v']∧RV ct μ L H m v∧RV ct μ L H m' v':=by
  simp only [RVs] at r
  obtain ⟨v,t,rfl,r1,v',t',rfl,r2,rfl⟩:=r
  exact ⟨v,v',rfl,r1,r2⟩
theorem yI {μ:List Addr} {L:Addr→Prop} {H:Hp}:∀ {xs:List MV} {ns:List Int} {vs:List V},yf xs=some ns→RVs ct μ L H xs vs→vs=ns.map V.int
  | [],ns,vs,e,r=>by simp [yf] at e; subst e; simp only [RVs] at r; subst r; rfl
  | .f (.int i)::xs,ns,vs,e,r=>by
    simp only [yf,Option.map_eq_some_iff] at e
    obtain ⟨ms,e1,rfl⟩:=e
    simp only [RVs] at r
    obtain ⟨v,t,rfl,r1,r2⟩:=r
    rw [qj r1,yI e1 r2]; rfl
  | .f .non::_,_,_,e,_=>by simp [yf] at e
  | .f (.bl _)::_,_,_,e,_=>by simp [yf] at e
  | .f (.str _)::_,_,_,e,_=>by simp [yf] at e
  | .f (.tup _)::_,_,_,e,_=>by simp [yf] at e
  | .f (.lst _)::_,_,_,e,_=>by simp [yf] at e
  | .f (.obj _ _ _)::_,_,_,e,_=>by simp [yf] at e
  | .f (.scr _)::_,_,_,e,_=>by simp [yf] at e
  | .f (.tab _)::_,_,_,e,_=>by simp [yf] at e
  | .ref _::_,_,_,e,_=>by simp [yf] at e
  | .tup _::_,_,_,e,_=>by simp [yf] at e
  | .exc _::_,_,_,e,_=>by simp [yf] at e
theorem SqR.len {H:Hp} {K:PySem.W.Frag} {b:Bool} {a:Addr} {vs:List V} (hK:K=ct.K) (q:SqR ct H b a vs):SqL K H a vs∨SqT K H a vs:=by
  subst hK
  cases b with
  | false=>exact .inl q
  | true=>exact .inr q
theorem ycb (hK:X.K=ct.K) (fz:Bool):CallR X (.builtin "len") (rB ct E fz "len"):=CallR.imp (k_len X.K) fun vs H Q q=>by
  obtain ⟨μ,h,ms,rel,r0,p⟩:=q
  rcases ms with _ | ⟨m,_ | ⟨m2,ms⟩⟩
  · exact p.elim
  · obtain ⟨v,rfl,rm⟩:=Yw r0
    obtain ⟨xs,e,p⟩:=Po.opt p
    obtain ⟨b,a,ws,rfl,sq,rs⟩:=Yy rel e rm
    exact ⟨a,ws,rfl,sq.len hK,by rw [rs.length]; exact p.now rel _ (Qo _)⟩
  · exact p.elim
theorem ybW (hK:X.K=ct.K) (fz:Bool) (hc:X.calm=true):CallR X (.builtin "sum") (rB ct E fz "sum"):=CallR.imp (k_sum X.K hc) fun vs H Q q=>by
  obtain ⟨μ,h,ms,rel,r0,p⟩:=q
  rcases ms with _ | ⟨m,_ | ⟨m2,ms⟩⟩
  · exact p.elim
  · obtain ⟨v,rfl,rm⟩:=Yw r0
    obtain ⟨ns,e,p⟩:=Po.opt p
    rw [Option.bind_eq_some_iff] at e
    obtain ⟨xs,e1,e2⟩:=e
    obtain ⟨b,a,ws,rfl,sq,rs⟩:=Yy rel e1 rm
    have:=yI e2 rs
    subst this
    exact ⟨b,a,ns,rfl,sq.s hK,p.now rel _ (Qo _)⟩
  · exact p.elim
theorem ybY (hK:X.K=ct.K) (fz:Bool) (hc:X.calm=true):CallR X (.builtin "min") (rB ct E fz "min"):=CallR.imp (CallR.ors (k_min X.K hc) (Ya8 hc)) fun vs H Q q=>by
  obtain ⟨μ,h,ms,rel,r0,p⟩:=q
  rcases ms with _ | ⟨m,_ | ⟨m2,_ | ⟨m3,ms⟩⟩⟩
  · exact p.elim
  · left
    obtain ⟨v,rfl,rm⟩:=Yw r0
    obtain ⟨ns,e,p⟩:=Po.opt p
    rw [Option.bind_eq_some_iff] at e
    obtain ⟨xs,e1,e2⟩:=e
    obtain ⟨b,a,ws,rfl,sq,rs⟩:=Yy rel e1 rm
    have:=yI e2 rs
    subst this
    cases ns with
    | nil=>exact p.elim
    | cons n ns =>
      refine ⟨b,a,n::ns,rfl,sq.s hK,by simp,fun k hk hl=>?_⟩
      have:k=zam n ns:=by
        have a1:=hl _ (yad (r:=n::ns) (by simp))
        have a2:=qbD (r:=n::ns) hk
        exact Int.le_antisymm a1 a2
      subst this
      exact p.now rel _ (Qo _)
  · right
    obtain ⟨v,v',rfl,rm,rm'⟩:=qaa r0
    obtain ⟨i,e,p⟩:=Po.opt p
    obtain ⟨j,e',p⟩:=Po.opt p
    have:=yg e; subst this
    have:=yg e'; subst this
    rw [qj rm,qj rm']
    exact ⟨i,j,rfl,p.now rel _ (Qo _)⟩
  · exact p.elim
theorem qb9 (hK:X.K=ct.K) (fz:Bool) (hc:X.calm=true):CallR X (.builtin "max") (rB ct E fz "max"):=CallR.imp (CallR.ors (k_max X.K hc) (yba hc)) fun vs H Q q=>by
  obtain ⟨μ,h,ms,rel,r0,p⟩:=q
  rcases ms with _ | ⟨m,_ | ⟨m2,_ | ⟨m3,ms⟩⟩⟩
  · exact p.elim
  · left
    obtain ⟨v,rfl,rm⟩:=Yw r0
    obtain ⟨ns,e,p⟩:=Po.opt p
    rw [Option.bind_eq_some_iff] at e
    obtain ⟨xs,e1,e2⟩:=e
    obtain ⟨b,a,ws,rfl,sq,rs⟩:=Yy rel e1 rm
    have:=yI e2 rs
    subst this
    cases ns with
    | nil=>exact p.elim
    | cons n ns =>
      refine ⟨b,a,n::ns,rfl,sq.s hK,by simp,fun k hk hl=>?_⟩
      have:k=Zap n ns:=by
        have a1:=hl _ (yai (r:=n::ns) (by simp))
        have a2:=yaE (r:=n::ns) hk
        exact Int.le_antisymm a2 a1
      subst this
      exact p.now rel _ (Qo _)
  · right
    obtain ⟨v,v',rfl,rm,rm'⟩:=qaa r0
    obtain ⟨i,e,p⟩:=Po.opt p
    obtain ⟨j,e',p⟩:=Po.opt p
    have:=yg e; subst this
    have:=yg e'; subst this
    rw [qj rm,qj rm']
    exact ⟨i,j,rfl,p.now rel _ (Qo _)⟩
  · exact p.elim
theorem qbp (hK:X.K=ct.K) (fz:Bool):CallR X (.type "tuple") (rB ct E fz "tuple"):=CallR.imp (qbL X.K) fun vs H Q q=>by
  obtain ⟨μ,h,ms,rel,r0,p⟩:=q
  rcases ms with _ | ⟨m,_ | ⟨m2,ms⟩⟩
  · exact p.elim
  · obtain ⟨v,rfl,rm⟩:=Yw r0
    obtain ⟨xs,e,p⟩:=Po.opt p
    rcases Qu e with e | e | ⟨ns,rfl,rfl⟩
    · obtain ⟨a,ws,rfl,n,rd,rs⟩:=Yu e rm
      exact ⟨a,ws,rfl,.inr ⟨.inl (.inl rd),p.now rel _ (YI n rd rs)⟩⟩
    · obtain ⟨a,ws,rfl,rd,rs⟩:=Yr rel e rm
      exact ⟨a,ws,rfl,.inl ⟨.inl rd,yS rel rs p⟩⟩
    · simp only [RV,RF] at rm
      obtain ⟨a,rfl,q⟩:=rm
      exact ⟨a,_,rfl,.inl ⟨by rw [hK]; exact Zax q,yS rel (YL ns) p⟩⟩
  · exact p.elim
theorem Qby (hK:X.K=ct.K) (fz:Bool):CallR X (.type "list") (rB ct E fz "list"):=CallR.imp (Yb3 X.K) fun vs H Q q=>by
  obtain ⟨μ,h,ms,rel,r0,p⟩:=q
  rcases ms with _ | ⟨m,_ | ⟨m2,ms⟩⟩
  · exact p.elim
  · obtain ⟨v,rfl,rm⟩:=Yw r0
    obtain ⟨xs,e,p⟩:=Po.opt p
    obtain ⟨b,a,ws,rfl,sq,rs⟩:=Yy rel e rm
    exact ⟨a,ws,rfl,sq.len hK,YA rel rs p⟩
  · exact p.elim
noncomputable def rLm (ct:Tx) (E:XK) (m:String):V→List V→Hp→VK→Prop:=fun x vs H Q=>∃ μ h mo ms,Rel ct μ h H∧RV ct μ (Liv μ h) H mo x∧RVs ct μ (Liv μ h) H ms vs∧Po ct E (lmV m mo ms h) μ h H (kV ct Q)
theorem MtR.imp {id:String} {r r':V→List V→Hp→VK→Prop} (o:MtR X id r) (k:∀ x xs H Q,r' x xs H Q→r x xs H Q):MtR X id r':=fun pins s σ H x xs v us Q I rx rv q=>o pins s σ H x xs v us Q I rx rv (k _ _ _ _ q)
theorem Qbv {m:String} {mo:MV} {ms:List MV} {μ:List Addr} {h:MH} {H:Hp} {x:V} {k:MV→List Addr→MH→Hp→Prop} (rel:Rel ct μ h H) (r:RV ct μ (Liv μ h) H mo x) (p:Po ct E (lmV m mo ms h) μ h H k) :
    ∃ i b xs vs,mo=.ref i∧x=.ref b∧μ[i]?=some b∧ze h i=some xs∧H b=some (.lst vs)∧RVs ct μ (Liv μ h) H xs vs:=by
  cases mo with
  | ref i =>
    obtain ⟨xs,e,_⟩:=Po.opt p
    obtain ⟨b,vs,e1,e2,q⟩:=rel.lst e
    simp only [RV] at r
    obtain ⟨b',e3,rfl⟩:=r
    rw [e1] at e3; cases e3
    exact ⟨i,b,xs,vs,rfl,rfl,e1,e,e2,q⟩
  | f _=>exact p.elim
  | tup _=>exact p.elim
  | exc _=>exact p.elim
theorem ybn {μ:List Addr} {h:MH} {H:Hp} {i:Nat} {b:Addr} {xs ys:List MV} {vs:List V} {m:MV} {v:V} {Q:VK} (rel:Rel ct μ h H) (e1:μ[i]?=some b) (e:ze h i=some xs) (r:RVs ct μ (Liv μ h) H ys vs) (rv:RV ct μ (Liv μ h) H m v)
    (p:Po ct E (.ok m (qe h i ys)) μ h H (kV ct Q)):Q v (upd H b (.lst vs)):=by
  have e2:=zG e
  have ex:=Ext.set (H:=H) rel e1 e2 (fun z=>nomatch z) (.lst ys) (.lst vs)
  refine p μ _ ex (rel.set e1 e2 (fun z=>nomatch z) ⟨vs,yd,?_⟩) v (rv.ext ex)
  exact RVs.ext ex r
theorem Zbd:MtR X "list.append" (rLm ct E "append"):=MtR.imp zbb fun x ws H Q q=>by
  obtain ⟨μ,h,mo,ms,rel,r,rs,p⟩:=q
  obtain ⟨i,b,xs,vs,rfl,rfl,e1,e,hb,q⟩:=Qbv rel r p
  rcases ms with _ | ⟨m,_ | ⟨m2,ms⟩⟩
  · obtain ⟨_,_,p⟩:=Po.opt p; exact p.elim
  · obtain ⟨v,rfl,rm⟩:=Yw rs
    obtain ⟨_,e',p⟩:=Po.opt p
    rw [e] at e'; cases e'
    change Po ct E (if xs.length < MP.sizeL then _ else _) μ h H (kV ct Q) at p
    split at p
    next c=>exact ⟨b,vs,v,rfl,rfl,hb,by rw [q.length]; exact Nat.lt_of_lt_of_le c qC,ybn rel e1 e (q.append (RVs.cons rm RVs.nil)) QaD p⟩
    next=>exact p.elim
  · obtain ⟨_,_,p⟩:=Po.opt p; exact p.elim
theorem Qbc:MtR X "list.extend" (rLm ct E "extend"):=MtR.imp YaS fun x ws H Q q=>by
  obtain ⟨μ,h,mo,ms,rel,r,rs,p⟩:=q
  obtain ⟨i,b,xs,vs,rfl,rfl,e1,e,hb,q⟩:=Qbv rel r p
  rcases ms with _ | ⟨m,_ | ⟨m2,ms⟩⟩
  · obtain ⟨_,_,p⟩:=Po.opt p; exact p.elim
  · obtain ⟨v,rfl,rm⟩:=Yw rs
    obtain ⟨_,e',p⟩:=Po.opt p
    rw [e] at e'; cases e'
    change Po ct E (opt (listOf h m) fun ys=>if xs.length + ys.length≤MP.sizeL then .ok (.f .non) (qe h i (xs++ys)) else .stuck) μ h H (kV ct Q) at p
    obtain ⟨ys,e3,p2⟩:=Po.opt p
    obtain ⟨a,ws,rfl,rd,rs2⟩:=Yr rel e3 rm
    split at p2
    next c=>exact ⟨b,a,vs,ws,rfl,rfl,hb,rd,by rw [q.length,rs2.length]; exact Nat.le_trans c qC,ybn rel e1 e (q.append rs2) QaD p2⟩
    next=>exact p2.elim
  · obtain ⟨_,_,p⟩:=Po.opt p; exact p.elim
end
noncomputable def ya:Expr→Bool
  | .Starred ..=>false
  | .Slice ..=>false
  | .Set ..=>false
  | _=>true
noncomputable def yn:Expr→Bool
  | .Call (.Name x _) [] [] _=>!(x == ("super":Str))
  | _=>true
noncomputable def zB (cs sc:Scope):Scope :=
  {cs with names:=cs.names.map fun (n,k)=>if (k == NameKind.free&&sc.kind == .function&&sc.names.lookup n == some .cell) then (n,NameKind.cell) else (n,k)}
noncomputable def gl (sc:Scope) (x:Str):Bool:=sc.names.lookup x == some .globalImplicit&&!(x == ("__debug__":Str))&&decide (x≠("__name__":Str))
noncomputable def visB (sc:Scope) (x:Str):Bool:=(sc.names.lookup x == some .local || sc.names.lookup x == some .cell || sc.names.lookup x == some .free)&&!(x == ("__debug__":Str))&&!(x == ("__classdict__":Str))
noncomputable def stoB (lo:Str→Bool) (sc:Scope) (x:Str):Bool:=sc.names.lookup x == some .local || (lo x&&sc.names.lookup x == some .cell)
noncomputable abbrev YaR:Str→Bool:=fun _=>true
noncomputable abbrev ownC (cs:Scope):Str→Bool:=fun x=>cs.names.lookup x == some .cell
mutual
noncomputable def Qw (lo:Str→Bool) (N:List Str) (sc:Scope):Tg→Expr→Bool
  | .nm i,.Name x _=>N[i]? == some x&&stoB lo sc x
  | .tp ts,.Tuple es _ _=>qO lo N sc ts es
  | _,_=>false
noncomputable def qO (lo:Str→Bool) (N:List Str) (sc:Scope):List Tg→List Expr→Bool
  | [],[]=>true
  | t::ts,e::es=>Qw lo N sc t e&&qO lo N sc ts es
  | _,_=>false
end
mutual
noncomputable def tgN:Tg→Expr→List Str
  | .nm _,.Name x _=>[x]
  | .tp ts,.Tuple es _ _=>tgNs ts es
  | _,_=>[]
noncomputable def tgNs:List Tg→List Expr→List Str
  | t::ts,e::es=>tgN t e++tgNs ts es
  | _,_=>[]
end
noncomputable def isTup:Expr→Bool
  | .Tuple ..=>true
  | _=>false
noncomputable def fnNames:List String:=["len","sum","min","max"]
noncomputable def tyNames:List String:=["tuple","list"]
noncomputable def lmNames:List String:=["append","extend"]
noncomputable def lm0Names:List String:=[]
noncomputable def isTys:List String:=["dict","list","tuple","str","int","bool"]
noncomputable def zx:Expr→List Expr
  | .Call (.Name _ _) as [] _=>as
  | _=>[]
noncomputable def Zag (tg:Expr) (it:String):Expr→Bool
  | .Call (.Name x _) as [] _=>(it == "range"&&as.length == 1 || it == "zip"&&isTup tg&&as.length == 2 || it == "enumerate"&&false&&as.length == 1)&&x == Str.ofString it
  | _=>false
noncomputable def okT:ME→Bool
  | .frz _=>false
  | .frzT _=>false
  | .ite _ _ _=>false
  | _=>true
noncomputable def YaM:Expr→Bool
  | .Constant (.bool true) _ _=>true
  | _=>false
noncomputable def zbw {α:Type}:List α→Option (α×α)
  | [a,b]=>some (a,b)
  | _=>none
noncomputable def oneL {α:Type}:List α→Option α
  | [a]=>some a
  | _=>none
noncomputable def zaX:Expr→Option (Expr×Expr)
  | .Dict ks vs _=>(zbw ks).bind fun k=>(zbw vs).bind fun v=>if YaM v.1&&YaM v.2 then k.1.bind fun x=>k.2.map fun y=>(x,y) else none
  | _=>none
noncomputable def asC1:Expr→Option (Str×Expr)
  | .Call (.Name x _) as [] _=>(oneL as).map fun a=>(x,a)
  | _=>none
noncomputable def yaF (e:Expr):Option (Str×Str×Expr):=(asC1 e).bind fun p=>(asC1 p.2).map fun q=>(p.1,q.1,q.2)
noncomputable def isM1:Expr→Bool
  | .UnaryOp .USub (.Constant (.int 1) _ _) _=>true
  | _=>false
noncomputable def rvForm:Expr→Option Expr
  | .Subscript x (.Slice none none (some st) _) _=>if isM1 st then some x else none
  | _=>none
noncomputable def zaV:Option FV→Bool
  | some (.int _)=>true
  | _=>false
section
variable (Pm:Prog)
mutual
noncomputable def ym (me:ME) (N:List Str) (sc:Scope) (e:Expr):Bool:=match me,e with
  | .var i,.Name x _=>N[i]? == some x&&visB sc x
  | .cI i,.Constant (.int j) _ _=>i == j
  | .cB b,.Constant (.bool c) _ _=>b == c
  | .cN,.Constant .none _ _=>true
  | .cS s,.Constant (.str x) _ _=>s == x
  | .bin _ op a b,.BinOp l o r _=>o == mOp op&&(ya l&&ym a N sc l)&&(ya r&&ym b N sc r)
  | .neg a,.UnaryOp .USub x _=>(ya x&&ym a N sc x)
  | .cmp op a b,.Compare l [o] [r] _=>o == YY op&&(ya l&&ym a N sc l)&&(ya r&&ym b N sc r)
  | .chain op op' a b c,.Compare l [o,o'] [m,r] _=>o == YY op&&o' == YY op'&&(ya l&&ym a N sc l)&&(ya m&&ym b N sc m)&&(ya r&&ym c N sc r)
  | .notN a,.Compare l [.IsNot] [.Constant .none _ _] _=>(ya l&&ym a N sc l)
  | .and es,.BoolOp .And vs _=>es.all okT&&Zj es N sc vs
  | .or es,.BoolOp .Or vs _=>es.all okT&&Zj es N sc vs
  | .not a,.UnaryOp .Not x _=>okT a&&(ya x&&ym a N sc x)
  | .ite c a b,.IfExp t x y _=>okT c&&(ya t&&ym c N sc t)&&(ya x&&ym a N sc x)&&(ya y&&ym b N sc y)
  | .tup es,.Tuple vs _ _=>decide (vs.length < 1000)&&Zj es N sc vs
  | .lst _ es,.List vs _=>decide (vs.length < 1000)&&Zj es N sc vs
  | .sub a i,.Subscript x y _=>(ya x&&ym a N sc x)&&(ya y&&ym i N sc y)
  | .slice _ a lo hi,.Subscript x (.Slice l u none _) _=>(ya x&&ym a N sc x)&&ybo lo N sc l&&ybo hi N sc u
  | .fld a n,.Attribute x m _=>m == Str.ofString n&&yn x&&(ya x&&ym a N sc x)
  | .glob g,.Name x _=>x == Str.ofString g&&gl sc x&&zaV (Pm.globs g)
  | .call f es,.Call (.Name x _) (v::vs) [] _=>x == Str.ofString f&&gl sc x&&!(f.toList.contains '.')&&(Pm.defs f).isSome&&Zj es N sc (v::vs)
  | .make _ c es,.Call (.Name x _) (v::vs) [] _=>x == Str.ofString c&&gl sc x&&(Pm.meths c "__init__").isSome&&Zj es N sc (v::vs)
  | .make _ c [],.Call (.Name x _) [] [] _=>x == Str.ofString c&&gl sc x&&Pm.mk0 c&&(Pm.meths c "__init__").isNone
  | .blt _ n es,.Call (.Name x _) (v::vs) [] _=>x == Str.ofString n&&gl sc x&&(fnNames.contains n || tyNames.contains n)&&Zj es N sc (v::vs)
  | .isI a t,.Call (.Name x _) [v,.Name y _] [] _=>x == ("isinstance":Str)&&gl sc x&&y == Str.ofString t&&gl sc y&&(isTys.contains t || (Pm.subs t t).isSome)&&(ya v&&ym a N sc v)
  | .dset2 a b,e=>match zaX e with
    | some (x,y)=>(ya x&&ym a N sc x)&&(ya y&&ym b N sc y)
    | none=>false
  | .srtK a,e=>match yaF e with
    | some (x,y,v)=>x == ("sorted":Str)&&gl sc x&&y == ("list":Str)&&gl sc y&&(ya v&&ym a N sc v)
    | none=>false
  | .dNew,.Dict [] [] _=>true
  | .dSub a k,.Subscript x y _=>(ya x&&ym a N sc x)&&(ya y&&ym k N sc y)
  | .frzT a,e=>(ya e&&ym a N sc e)
  | .dGet a k d,.Call (.Attribute x n ap) [vk,vd] [] cp=>n == ("get":Str)&&yn x&&(ap.endLine == cp.line)&&(ya x&&ym a N sc x)&&(ya vk&&ym k N sc vk)&&(ya vd&&ym d N sc vd)
  | .lm m o es,.Call (.Attribute x n ap) vs [] cp=>n == Str.ofString m&&yn x&&(ap.endLine == cp.line)&&(ya x&&ym o N sc x)&&Zj es N sc vs&&(if vs.isEmpty then lm0Names.contains m else lmNames.contains m&&decide (vs.length < 30))
  | .comp _ elt tg it src cond ncv js,.ListComp x [⟨t,iter,ifs,a⟩] cs _ =>
      let N':=tgN tg t++js.filterMap fun j=>N[j]?
      (a == 0)&&ya iter&&qw sc N cs N' ncv js&&decide N'.Nodup&&Qw (ownC cs) N' (zB cs sc) tg t&&(ya x&&ym elt N' (zB cs sc) x)&&chkC cond N' (zB cs sc) ifs &&
        (if it == "seq" then YaD src N sc iter else Zag t it iter&&gl sc (Str.ofString it)&&Zj src N sc (zx iter))
  | .frz m,e=>(ya e&&ym m N sc e)
  | _,_=>false
noncomputable def Zj (mes:List ME) (N:List Str) (sc:Scope) (es:List Expr):Bool:=match mes,es with
  | [],[]=>true
  | m::ms,e::es=>(ya e&&ym m N sc e)&&Zj ms N sc es
  | _,_=>false
noncomputable def YaD (mes:List ME) (N:List Str) (sc:Scope) (e:Expr):Bool:=match mes with
  | [m]=>(ya e&&ym m N sc e)
  | _=>false
noncomputable def ybo (mo:Option ME) (N:List Str) (sc:Scope) (eo:Option Expr):Bool:=match mo,eo with
  | none,none=>true
  | some m,some e=>(ya e&&ym m N sc e)
  | _,_=>false
noncomputable def chkC (mo:Option ME) (N:List Str) (sc:Scope) (es:List Expr):Bool:=match mo,es with
  | none,[]=>true
  | some m,[e]=>okT m&&(ya e&&ym m N sc e)
  | _,_=>false
end
noncomputable def Qe (me:ME) (N:List Str) (sc:Scope) (e:Expr):Bool:=ya e&&ym Pm me N sc e
end
noncomputable def spR (ct:Tx) (W:List MV→MH→R MV):Sp:=fun vs H Q E=>∃ μ h ms,Rel ct μ h H∧RVs ct μ (Liv μ h) H ms vs∧Po ct E (W ms h) μ h H (kV ct Q)
structure ClsOk (K:PySem.W.Frag) (C:Addr):Prop where
  cl:Cls K C
  ha:PySem.W.findIn K (.ref C) "__class__"=some (some (.builtin "object.__class__"))
  hn:PySem.W.specialIn K (.builtin "object.__class__") "__get__"=some (some (.builtin "getset_descriptor.__get__"))
  tk:PySem.W.takesIn K (.builtin "object.__class__")=some true
  hm:PySem.W.mroIn K C (.type "object")=some true
noncomputable def spW (ct:Tx) (Pm:Prog) (wd:String):Addr→Addr→Sp:=fun x C vs H Q _=>vs=[.ref x]∧∃ c s,C=ct c∧Pm.word wd c=some s∧∀ H',Same H H'→Q (.str s) H'
structure Txt (P:Program) (w:World) (K:PySem.W.Frag) (mg:Str→Option Value) (base:Heap) (Pm:Prog) (ct:Tx) (n:Nat):Prop where
  defs:∀ f d,Pm.defs f=some d→f.toList.contains '.'=false→∃ ps,QaI P w K mg base (Str.ofString f) (2 * n) ps (spR ct (run Pm n f))
  inits:∀ c f,Pm.meths c "__init__"=some f→∃ ps,Zbu P w K mg base (Str.ofString c) (ct c) (2 * n) ps (spR ct (run Pm n f))
  blts:∀ x∈fnNames++tyNames++isTys++["range","zip","enumerate","isinstance","sorted","reversed"],mg (Str.ofString x)=none
  fok:∀ c f,Pm.fok c f=true→Cls K (ct c)∧NoAttr K (ct c) (Str.ofString f)
  cls:∀ c t b,Pm.subs c t=some b→ClsOk K (ct c)
  subC:∀ c t b,Pm.subs c t=some b→isTys.contains t=false→mg (Str.ofString t)=some (.ref (ct t))∧PySem.W.kitOne K (.ref (ct c)) (.ref (ct t))=some b
  subT:∀ c t b,Pm.subs c t=some b→isTys.contains t=true→PySem.W.kitOne K (.ref (ct c)) (.type t)=some b
  tyC:∀ t c b,Pm.subs c t=some b→isTys.contains t=false→∀ T∈["NoneType","bool","int","str","list","tuple"],PySem.W.kitOne K (.type T) (.ref (ct t))=some false
  excs:∀ c,Pm.excs c=true→qT K (ct c)∧mg (Str.ofString c)=some (.ref (ct c))
  words:∀ wd,Pm.words wd=true→qT K (ct "DotError")∧mg "DotError"=some (.ref (ct "DotError"))∧(∃ ps,Qbl P w K mg base (Str.ofString wd) 1 ps (spW ct Pm wd)) ∧
    ∀ c s,Pm.word wd c=some s→qT K (ct c)∧(qU K (ct c)).contains (.ref (ct "DotError"))=true
  xcls:∀ t,Pm.xcls t=true→(if t="ValueError" then mg "ValueError"=none else mg (Str.ofString t)=some (.ref (ct t)))
  xs:∀ c t b,Pm.xsubs c t=some b→ExcK K (ct c)∧PySem.W.kitOne K (.ref (ct c)) (if t="ValueError" then .type "ValueError" else .ref (ct t))=some b
  dfl:∀ f ds,Pm.dfl f ds=true→∃ ps fa fd dvals,FnOk P w K mg base (CX1 P w) (2 * n) fa fd ps (spR ct (run Pm n f))∧Binds K fd ps dvals∧Vals (ds.map V.int) dvals∧PySem.W.keepIn K (.ref fa)=true∧mg (Str.ofString f)=some (.ref fa)
  xdot:Pm.xt=true→qT K (ct "DotError")∧mg "DotError"=some (.ref (ct "DotError"))∧∀ c b,Pm.xsubs c c=some b→qT K (ct c)∧(qU K (ct c)).contains (.ref (ct "DotError"))=true
  meths:∀ c m f,Pm.meths c m=some f→m≠"__init__"→Qb8 P w K mg base (2 * n) (ct c) (Str.ofString m) (spR ct (run Pm n f))
  mk0:∀ c,Pm.mk0 c=true→Mk0 K (ct c)∧mg (Str.ofString c)=some (.ref (ct c))
  globs:∀ x i,Pm.globs x=some (.int i)→∃ t,mg (Str.ofString x)=some (.int i t)
structure Cc (X:Cx) (Pm:Prog) (ct:Tx) (n:Nat) (Ra:L2.St→Prop) (E:XK) (N:List Str) (sc:Scope):Prop where
  txt:Txt X.prog X.w X.K X.mg X.base Pm ct n
  calm:X.calm=true
  room:Room (2 * n + 1) X.A
  pas:∀ σ,Ra σ→Yz (CX1 X.prog X.w) X σ E
  nm:X.N=N
  sc:X.env.scope=sc
  nd:X.N.Nodup
  hK:X.K=ct.K
section
variable {ct:Tx} {X:Cx} {E:XK} {Pm:Prog} {n:Nat} {Ra:L2.St→Prop} {N:List Str} {sc:Scope}
theorem Cc.units (c:Cc X Pm ct n Ra E N sc):X.A.units + 65 < cLine:=by have:=c.room.un; omega
theorem zH {x:Str} (hs:X.env.scope=sc) (h:gl sc x=true):Gl X x∧(x == ("__debug__":Str))=false∧x≠"__name__":=by
  unfold gl at h
  simp only [Bool.and_eq_true,beq_iff_eq,Bool.not_eq_true',decide_eq_true_eq] at h
  refine ⟨?_,h.1.2,h.2⟩
  show X.env.scope.names.lookup x=_
  rw [hs]; exact h.1.1
theorem yh {e:Expr} {es:List Expr} {env:Env} (h:ya e=true):starEach (e::es) env=(false,eval e env)::starEach es env:=by
  cases e <;> first | rfl | (simp [ya] at h)
theorem qE {e:Expr} (h:ya e=true) (op:CmpOp):behindInMarks op e=false:=by
  cases e <;> first | rfl | (simp [ya] at h)
theorem Ybm {e:Expr} (h:ya e=true):za5 e:=by
  intro o i
  cases e <;> first | rfl | (simp [ya] at h)
theorem yF {e:Expr} {env:Env} (h:ya e=true):∀ x,foldedSetIterable e env x=pure x:=by
  intro x
  cases e <;> first | rfl | (simp [ya] at h)
theorem YR {e:Expr} {f:Str} {env:Env} {w:Sem Value} (h:yn e=true):attributeBase e f env w=w:=by
  cases e with
  | Call g as ks p =>
    cases g with
    | Name x q =>
      cases as with
      | nil =>
        cases ks with
        | nil =>
          have h':(x == ("super":Str))=false:=by simpa [yn] using h
          have e1:(x != ("super":Str))=true:=by simp [bne,h']
          unfold attributeBase
          simp only [e1,Bool.true_or,if_true]
        | cons _ _=>rfl
      | cons _ _=>rfl
    | _=>rfl
  | _=>rfl
theorem zl {me:ME} {e:Expr} (h:Qe Pm me N sc e=true):ya e=true:=by
  unfold Qe at h
  exact (Bool.and_eq_true_iff.mp h).1
theorem Qb {me:ME} {e:Expr} (h:Qe Pm me N sc e=true):ym Pm me N sc e=true:=by
  unfold Qe at h
  exact (Bool.and_eq_true_iff.mp h).2
theorem ff {P:Prop} (h:false=true):P:=Bool.noConfusion h
theorem qaV {m:ME} {ms:List ME} {e:Expr} {es:List Expr} (h:Zj Pm (m::ms) N sc (e::es)=true):Qe Pm m N sc e=true∧Zj Pm ms N sc es=true:=Bool.and_eq_true_iff.mp (show (Qe Pm m N sc e&&Zj Pm ms N sc es)=true from h)
theorem Qm {env:Env}:∀ {es:List Expr},(∀ e∈es,ya e=true)→starEach es env=es.map fun e=>(false,eval e env)
  | [],_=>rfl
  | e::es,h=>by
    rw [yh (h e (by simp)),Qm fun x hx=>h x (by simp [hx])]; rfl
theorem Qs {env:Env} {pos:Pos} {es:List Expr} (h:∀ e∈es,ya e=true):(backTo pos (starEach es env)).any (·.1)=false:=by
  rw [Qm h]
  unfold backTo
  rw [List.map_map,List.any_map]
  induction es with
  | nil=>rfl
  | cons e es ih=>simp [Function.comp]
theorem PE.imp {e:Expr} {t t':TE} (p:PE X e t) (k:∀ σ H Q,t' σ H Q→t σ H Q):PE X e t':=fun pins s σ H Q I h=>p pins s σ H Q I (k σ H Q h)
theorem PT.imp {e:Expr} {t t':TT} (p:PT X e t) (k:∀ σ H Q,t' σ H Q→t σ H Q):PT X e t':=fun pins s σ H Q I h=>p pins s σ H Q I (k σ H Q h)
theorem PW.imp {e:Expr} {t t':TT} (p:PW X e t) (k:∀ σ H Q,t' σ H Q→t σ H Q):PW X e t':=fun wh pins s σ H Q I h=>p wh pins s σ H Q I (k σ H Q h)
theorem PA.imp {es:List Expr} {t t':TA} (p:PA X es t) (k:∀ σ H Q,t' σ H Q→t σ H Q):PA X es t':=fun pos pins s σ H Q I h=>p pos pins s σ H Q I (k σ H Q h)
theorem PS.imp {e:Stmt} {t t':TS} (p:PS X e t) (k:∀ D σ H,t' D σ H→t D σ H):PS X e t':=fun pins s σ H D I h=>p pins s σ H D I (k D σ H h)
theorem PSs.imp {e:List Stmt} {t t':TS} (p:PSs X e t) (k:∀ D σ H,t' D σ H→t D σ H):PSs X e t':=fun pins s σ H D I h=>p pins s σ H D I (k D σ H h)
noncomputable def lG (ct:Tx) (tg:Tg):TG:=fun v σ H Q=>∃ μ h σs m σs',Rel ct μ h H∧RelSt ct μ h H σ σs∧RV ct μ (Liv μ h) H m v∧YC tg m σs=some σs'∧∀ σ',RelSt ct μ h H σ' σs'→Q σ' H
noncomputable def lGs (ct:Tx) (tgs:List Tg):TGs:=fun vs σ H Q=>∃ μ h σs ms σs',Rel ct μ h H∧RelSt ct μ h H σ σs∧RVs ct μ (Liv μ h) H ms vs∧zy tgs ms σs=some σs'∧∀ σ',RelSt ct μ h H σ' σs'→Q σ' H
theorem PG.imp {e:Expr} {t t':TG} (p:PG X e t) (k:∀ v σ H Q,t' v σ H Q→t v σ H Q):PG X e t':=fun pins s σ H v u Q I r h=>p pins s σ H v u Q I r (k v σ H Q h)
theorem PGs.imp {e:List Expr} {t t':TGs} (p:PGs X e t) (k:∀ v σ H Q,t' v σ H Q→t v σ H Q):PGs X e t':=fun pins s σ H v u Q I r h=>p pins s σ H v u Q I r (k v σ H Q h)
theorem Q0 {lo:Str→Bool} {t:Tg} {e:Expr} (h:Qw lo N sc t e=true):∀ (es:List Expr) (env:Env),assignEach (e::es) env=(false,assign e env)::assignEach es env:=by
  intro es env
  cases t with
  | nm i=>cases e <;> first | rfl | (simp [Qw] at h)
  | tp ts=>cases e <;> first | rfl | (simp [Qw] at h)
theorem yak {lo:Str→Bool} {env:Env}:∀ {ts:List Tg} {es:List Expr},qO lo N sc ts es=true→(assignEach es env).length=ts.length∧(assignEach es env).findIdx? (·.1)=none
  | [],[],_=>⟨rfl,rfl⟩
  | [],_::_,h=>by simp [qO] at h
  | _::_,[],h=>by simp [qO] at h
  | t::ts,e::es,h=>by
    simp only [qO,Bool.and_eq_true] at h
    obtain ⟨h1,h2⟩:=yak (env:=env) h.2
    rw [Q0 h.1 es env]
    exact ⟨by simp [h1],by rw [List.findIdx?_cons]; simp [h2]⟩
theorem Zae:∀ {ts:List Tg} {ms:List MV} {σs σs':MSt},zy ts ms σs=some σs'→ms.length=ts.length
  | [],[],_,_,_=>rfl
  | [],_::_,_,_,e=>by simp [zy] at e
  | _::_,[],_,_,e=>by simp [zy] at e
  | t::ts,m::ms,σs,σs',e=>by
    simp only [zy,Option.bind_eq_some_iff] at e
    obtain ⟨σ1,_,e2⟩:=e
    simp [Zae e2]
mutual
theorem sG {lo:Str→Bool} (hN:X.N=N) (hs:X.env.scope=sc) (nd:X.N.Nodup) (hc:X.calm=true) (hf:∀ x,lo x=true→X.fn x=true):∀ (t:Tg) (e:Expr),Qw lo N sc t e=true→PG X e (lG ct t)
  | .nm i,e,h=>by
    cases e with
    | Name x p =>
      simp only [Qw,stoB,Bool.and_eq_true,beq_iff_eq,Bool.or_eq_true] at h
      obtain ⟨h1,h2⟩:=h
      have hi:X.N[i]?=some x:=by rw [hN]; exact h1
      have hk:Loc X.env.scope x:=by
        rw [hs]
        rcases h2 with h2 | ⟨_,h2⟩
        · exact .inl h2
        · exact .inr h2
      have hf':X.fn x=true∨X.env.scope.names.lookup x=some .local:=by
        rw [hs]
        rcases h2 with h2 | ⟨hl,h2⟩
        · exact .inr h2
        · exact .inl (hf x hl)
      refine PG.imp (ya3 nd hi hk hf') fun v σ H Q q=>?_
      obtain ⟨μ,hh,σs,m,σs',rel,rst,r,e,k⟩:=q
      simp [YC] at e
      subst e
      exact k _ (rst.set i r)
    | _=>simp [Qw] at h
  | .tp ts,e,h=>by
    cases e with
    | Tuple es k p =>
      simp only [Qw] at h
      obtain ⟨h1,h2⟩:=yak (env:=X.env) h
      refine PG.imp (QbV hc (sGs hN hs nd hc hf ts es h) h1 h2) fun v σ H Q q=>?_
      obtain ⟨μ,hh,σs,m,σs',rel,rst,r,e,k⟩:=q
      simp only [YC,Option.bind_eq_some_iff] at e
      obtain ⟨ms,e1,e2⟩:=e
      obtain ⟨a,vs,rfl,_,rd,rs⟩:=Yu e1 r
      exact ⟨a,vs,rfl,.inl (.inl rd),by rw [rs.length]; exact Zae e2,μ,hh,σs,ms,σs',rel,rst,rs,e2,k⟩
    | _=>simp [Qw] at h
theorem sGs {lo:Str→Bool} (hN:X.N=N) (hs:X.env.scope=sc) (nd:X.N.Nodup) (hc:X.calm=true) (hf:∀ x,lo x=true→X.fn x=true):∀ (ts:List Tg) (es:List Expr),qO lo N sc ts es=true→PGs X es (lGs ct ts)
  | [],es,h=>by
    cases es with
    | nil =>
      refine PGs.imp ZbC fun v σ H Q q=>?_
      obtain ⟨μ,hh,σs,ms,σs',rel,rst,rs,e,k⟩:=q
      cases ms with
      | nil =>
        simp only [RVs] at rs; subst rs
        simp [zy] at e; subst e
        exact ⟨rfl,k _ rst⟩
      | cons m ms=>simp [zy] at e
    | cons e es=>simp [qO] at h
  | t::ts,es,h=>by
    cases es with
    | nil=>simp [qO] at h
    | cons e es =>
      simp only [qO,Bool.and_eq_true] at h
      refine PGs.imp (ybx (sG hN hs nd hc hf t e h.1) (sGs hN hs nd hc hf ts es h.2) (by rw [Q0 h.1 es X.env]; rfl)) fun v σ H Q q=>?_
      obtain ⟨μ,hh,σs,ms,σs',rel,rst,rs,e,k⟩:=q
      cases ms with
      | nil=>simp [zy] at e
      | cons m ms =>
        simp only [zy,Option.bind_eq_some_iff] at e
        obtain ⟨σ1,e1,e2⟩:=e
        simp only [RVs] at rs
        obtain ⟨v1,vr,rfl,r1,r2⟩:=rs
        exact ⟨v1,vr,rfl,μ,hh,σs,m,σ1,rel,rst,r1,e1,fun σ' rst'=>⟨μ,hh,σ1,ms,σs',rel,rst',r2,e2,k⟩⟩
end
end
section
variable {ct:Tx} {X:Cx} {E:XK} {Pm:Prog} {n:Nat} {Ra:L2.St→Prop} {N:List Str} {sc:Scope}
theorem PI.imp {tg e:Expr} {t t':TI} (p:PI X tg e t) (k:∀ σ H Q,t' σ H Q→t σ H Q):PI X tg e t':=fun pins s σ H Q I h=>p pins s σ H Q I (k σ H Q h)
noncomputable def Wk (ct:Tx) (J:It) (items:List MV) (g:yz) (μ1:List Addr) (h1:MH) (H1:Hp):Prop:=∀ (i:Nat) μ h H,Ext μ1 h1 H1 μ h H→Rel ct μ h H→GuardOk g h →
  (i < items.length→J.go i H∧∀ x H2,J.yld i H x H2→∃ m,items[i]?=some m∧Ext μ h H μ h H2∧Rel ct μ h H2∧RV ct μ (Liv μ h) H2 m x)∧(i=items.length→J.stop i H)
noncomputable def Stay (ct:Tx) (b:Bool) (a:Addr) (items:List MV) (g:yz) (μ1:List Addr) (h1:MH) (H1:Hp):Prop:=∀ μ h H,Ext μ1 h1 H1 μ h H→Rel ct μ h H→GuardOk g h→∃ vs,SqR ct H b a vs∧RVs ct μ (Liv μ h) H items vs
theorem Yab {μ:List Addr} {h:MH} {H:Hp} {m:MV} {v:V} {items:List MV} (rel:Rel ct μ h H) (e:yb h m=some items) (r:RV ct μ (Liv μ h) H m v):∃ b a,v=.ref a∧Stay ct b a items (Zc h m) μ h H:=by
  cases m with
  | f x =>
    rcases Qu e with e' | e' | ⟨ns,e',rfl⟩
    · obtain ⟨a,vs,rfl,na,rd,rs⟩:=Yu e' r
      exact ⟨true,a,rfl,fun μ' h' H' ex _ _=>⟨vs,SqT.of (ex.keep a _ rd na),rs.ext ex⟩⟩
    · cases x with
      | lst xs =>
        simp only [RV,RF] at r
        obtain ⟨a,vs,rfl,na,rd,rs⟩:=r
        cases e'
        exact ⟨false,a,rfl,fun μ' h' H' ex _ _=>⟨vs,.inl (Rd.keep (fun o q=>ex.keep a o q na) rd),(RVs.ofF (μ:=μ) rs).ext ex⟩⟩
      | _=>cases e'
    · cases e'
      simp only [RV,RF] at r
      obtain ⟨a,rfl,q⟩:=r
      exact ⟨false,a,rfl,fun μ' h' H' ex _ _=>⟨_,Zax (L:=Liv μ' h') (q.imp (fun ⟨n,o,e⟩=>⟨ex.let.liv a _ e n,o,ex.keep a _ e n⟩) id),YL ns⟩⟩
  | tup xs =>
    rcases Qu e with e' | e' | ⟨ns,e',_⟩
    · obtain ⟨a,vs,rfl,na,rd,rs⟩:=Yu e' r
      exact ⟨true,a,rfl,fun μ' h' H' ex _ _=>⟨vs,SqT.of (ex.keep a _ rd na),rs.ext ex⟩⟩
    · cases e'
    · cases e'
  | ref i =>
    have e0:ze h i=some items:=e
    simp only [RV] at r
    obtain ⟨b,eb,rfl⟩:=r
    refine ⟨false,b,rfl,fun μ' h' H' ex rel' g=>?_⟩
    have g':ze h' i=some items:=g (i,items) (by simp [Zc,e0])
    obtain ⟨b',vs,eb',hb,rs⟩:=rel'.lst g'
    obtain ⟨ν,rfl⟩:=ex.pre
    rw [List.getElem?_append_left (List.getElem?_eq_some_iff.mp eb).1,eb] at eb'
    cases eb'
    exact ⟨vs,SqL.of hb,rs⟩
  | exc c=>cases e
theorem GuardOk.left {g g':yz} {h:MH} (k:GuardOk (g++g') h):GuardOk g h:=fun p hp=>k p (List.mem_append_left _ hp)
theorem GuardOk.right {g g':yz} {h:MH} (k:GuardOk (g++g') h):GuardOk g' h:=fun p hp=>k p (List.mem_append_right _ hp)
theorem QbZ {K:PySem.W.Frag} (hK:K=ct.K) {b:Bool} {a:Addr} {items:List MV} {g:yz} {μ1:List Addr} {h1:MH} {H1:Hp} (st:Stay ct b a items g μ1 h1 H1):Wk ct (Its K b a) items g μ1 h1 H1:=by
  intro i μ h H ex rel gd
  obtain ⟨vs,sq,rs⟩:=st μ h H ex rel gd
  have hl:=rs.length
  refine ⟨fun hi=>⟨Its.go (sq.s hK) (by omega),fun x H2 y=>?_⟩,fun hi=>?_⟩
  · obtain ⟨rfl,e⟩:=Its.yld (sq.s hK) y
    obtain ⟨m,em,rm⟩:=rs.get' e
    exact ⟨m,em,Ext.refl _ _ _,rel,rm⟩
  · rw [hi,← hl]; exact Its.stop (sq.s hK)
theorem YbT {K:PySem.W.Frag} (hK:K=ct.K) {b1 b2:Bool} {a1 a2:Addr} {xs ys:List MV} {g g':yz} {μ1:List Addr} {h1:MH} {H1:Hp} (s1:Stay ct b1 a1 xs g μ1 h1 H1) (s2:Stay ct b2 a2 ys g' μ1 h1 H1) :
    Wk ct (Itz K b1 b2 a1 a2) ((xs.zip ys).map fun p=>Zg [p.1,p.2]) (g++g') μ1 h1 H1:=by
  intro i μ h H ex rel gd
  obtain ⟨vs,sq,rs⟩:=s1 μ h H ex rel (GuardOk.left gd)
  obtain ⟨ws,sq',rs'⟩:=s2 μ h H ex rel (GuardOk.right gd)
  have hl:=rs.length
  have hl':=rs'.length
  refine ⟨fun hi=>?_,fun hi=>?_⟩
  · simp only [List.length_map,List.length_zip] at hi
    refine ⟨⟨vs,ws,sq.s hK,sq'.s hK,by omega,by omega⟩,fun x H2 y=>?_⟩
    obtain ⟨T,x1,y1,rfl,hT,rfl,e1,e2⟩:=y
    obtain ⟨m1,em1,r1⟩:=rs.get' (e1 vs (sq.s hK))
    obtain ⟨m2,em2,r2⟩:=rs'.get' (e2 ws (sq'.s hK))
    have exn:=Ext.new rel hT (.tup [x1,y1])
    refine ⟨Zg [m1,m2],?_,exn,rel.new hT _,YI (Qaz rel hT) yd (RVs.cons (r1.ext exn) (RVs.cons (r2.ext exn) RVs.nil))⟩
    simp only [List.getElem?_map,List.getElem?_zip_eq_some,Option.map_eq_some_iff]
    exact ⟨(m1,m2),⟨em1,em2⟩,rfl⟩
  · simp only [List.length_map,List.length_zip] at hi
    refine ⟨vs,ws,sq.s hK,sq'.s hK,?_⟩
    omega
theorem zbW {lo:Int} {k:Nat} {μ1:List Addr} {h1:MH} {H1:Hp} (f:Nat→Int) (hf:∀ i:Nat,f i=lo + i):Wk ct (Itr lo k) ((List.range k).map fun i=>MV.f (.int (f i))) [] μ1 h1 H1:=by
  intro i μ h H ex rel gd
  refine ⟨fun hi=>?_,fun hi=>?_⟩
  · have hi':i < k:=by simpa using hi
    refine ⟨hi',fun x H2 y=>?_⟩
    obtain ⟨rfl,rfl⟩:=y
    refine ⟨.f (.int (f i)),by simp [hi'],Ext.refl _ _ _,rel,?_⟩
    rw [hf]; exact Qo _
  · have hi':i=k:=by simpa using hi
    exact Nat.le_of_eq hi'.symm
noncomputable def lI (ct:Tx) (Ra:L2.St→Prop) (E:XK) (ev:MSt→MH→R (List MV)) (it:String):TI:=fun σ H R=>∃ μ h σs,Rel ct μ h H∧RelSt ct μ h H σ σs∧Ra σ ∧
  Po ct E (ev σs h) μ h H fun xs μ1 h1 H1=>∃ items g,itV it xs h1=some (items,g)∧Rel ct μ1 h1 H1∧∀ J,Wk ct J items g μ1 h1 H1→R J H1
theorem Yb5 (hK:X.K=ct.K) {tg e:Expr} {ev:MSt→MH→R MV} (h:PE X e (lE ct Ra E ev)):PI X tg e (lI ct Ra E (fun σ hh=>(ev σ hh).bind fun x h1=>.ok [x] h1) "seq"):=PI.imp (k_sq X.K h) fun σ H Q q=>by
  obtain ⟨μ,hh,σs,rel,rst,ra,p⟩:=q
  refine lE.mk rel rst ra p fun m v μ1 h1 H1 ex rel1 rst1 rv p1=>?_
  obtain ⟨items,g,e1,_,k⟩:=p1.now rel1
  simp only [itV,Option.map_eq_some_iff,Prod.mk.injEq] at e1
  obtain ⟨xs,e2,rfl,rfl⟩:=e1
  obtain ⟨b,a,rfl,st⟩:=Yab rel1 e2 rv
  obtain ⟨vs,sq,_⟩:=st μ1 h1 H1 (Ext.refl _ _ _) rel1 (fun p hp=>by
    cases m with
    | ref i =>
      have e0:ze h1 i=some xs:=e2
      simp [Zc,e0] at hp
      subst hp; exact e0
    | f _=>simp [Zc] at hp
    | tup _=>simp [Zc] at hp
    | exc _=>simp [Zc] at hp)
  exact ⟨b,a,rfl,⟨vs,sq.s hK⟩,k _ (QbZ hK st)⟩
theorem ZbH {μ:List Addr} {h:MH} {H:Hp} (rel:Rel ct μ h H) {T:Addr} {xs:List V} (e:H T=some (.tup xs)):¬ Liv μ h T:=fun ⟨i,c,e1,e2,nd⟩=>by
  have r:=rel.cells i T c e1 e2
  cases c with
  | lst ys=>obtain ⟨vs,q,_⟩:=r; rw [e] at q; cases q
  | obj c fs=>obtain ⟨dx,gs,q,_⟩:=r; rw [e] at q; cases q
  | dic ks=>have q:H T=_:=r; rw [e] at q; cases q
  | tab ks=>have q:H T=_:=r; rw [e] at q; cases q
  | code=>obtain ⟨_,q | ⟨_,_,_,q,_⟩⟩:=r <;> (rw [e] at q; cases q)
  | dead=>exact nd rfl
theorem qbK {a:Addr} {o:Obj} {kvs:List ((Int×Int)×Int)} {μ1:List Addr} {h1:MH} {H1:Hp} (na:¬ Liv μ1 h1 a) (ha:H1 a=some (.frz o (.dT (kvs.map fun kv=>([(Sum.inl kv.1.1:Key),Sum.inl kv.1.2],V.int kv.2))))) :
    Wk ct (Itd a o) (kvs.map fun kv=>MV.f (.tup [.int kv.1.1,.int kv.1.2])) [] μ1 h1 H1:=by
  intro i μ h H ex rel _
  have hH:=ex.keep a _ ha na
  refine ⟨fun hi=>⟨⟨_,hH,by simpa using hi⟩,fun x H2 ⟨e1,T,e2,k⟩=>?_⟩,fun hi=>⟨_,hH,by simpa using hi⟩⟩
  subst e1; subst e2
  obtain ⟨kv,e3,e4⟩:=k _ hH
  rw [List.getElem?_map] at e3
  cases e5:kvs[i]? with
  | none=>rw [e5] at e3; cases e3
  | some p =>
    rw [e5] at e3
    cases e3
    refine ⟨_,by rw [List.getElem?_map,e5]; rfl,Ext.refl _ _ _,rel,?_⟩
    simp only [RV,RF,RFs]
    exact ⟨T,_,rfl,ZbH rel e4,e4,_,_,rfl,rfl,_,_,rfl,rfl,rfl⟩
theorem qbA {tg e:Expr} {ev:MSt→MH→R MV} (h:PE X e (lE ct Ra E ev)):PI X tg e (lI ct Ra E (fun σ hh=>(ev σ hh).bind fun x h1=>.ok [x] h1) "keys"):=PI.imp (qb2 h) fun σ H Q q=>by
  obtain ⟨μ,hh,σs,rel,rst,ra,p⟩:=q
  refine lE.mk rel rst ra p fun m v μ1 h1 H1 ex rel1 rst1 rv p1=>?_
  obtain ⟨items,g,e1,_,k⟩:=p1.now rel1
  cases m with
  | f x =>
    cases x with
    | tab kvs =>
      simp only [itV,Option.some.injEq,Prod.mk.injEq] at e1
      obtain ⟨rfl,rfl⟩:=e1
      simp only [RV,RF] at rv
      obtain ⟨a,o,rfl,na,ha⟩:=rv
      exact ⟨a,o,_,rfl,ha,k _ (qbK na ha)⟩
    | _=>cases e1
  | ref _=>cases e1
  | tup _=>cases e1
  | exc _=>cases e1
theorem yZ {h1:MH} {m:MV} {xs:List MV} (e2:yb h1 m=some xs):GuardOk (Zc h1 m) h1:=fun p hp=>by
  cases m with
  | ref i =>
    have e0:ze h1 i=some xs:=e2
    simp [Zc,e0] at hp
    subst hp; exact e0
  | f _=>simp [Zc] at hp
  | tup _=>simp [Zc] at hp
  | exc _=>simp [Zc] at hp
theorem Qbt {tg:Expr} {es:List Expr} {p pos:Pos} {ev:MSt→MH→R (List MV)} (hg:Gl X "range") (hm:X.mg "range"=none) (ha:PA X es (lA ct Ra E ev)) (hpl:∀ e∈es,ya e=true) (hl:es.length=1) (hn:∀ σ h xs h',ev σ h=.ok xs h'→xs.length=es.length) :
    PI X tg (.Call (.Name "range" p) es [] pos) (lI ct Ra E ev "range"):=by
  rcases es with _ | ⟨a,_ | ⟨b,_ | ⟨c,_ | ⟨d,es⟩⟩⟩⟩
  · simp at hl
  · refine PI.imp (Qbf hg hm ha (Qm hpl)) fun σ H Q q=>?_
    obtain ⟨μ,hh,σs,rel,rst,ra,p⟩:=q
    refine ⟨μ,hh,σs,rel,rst,ra,?_⟩
    cases er:ev σs hh with
    | exc c h'=>rw [er] at p; exact p
    | stuck=>rw [er] at p; exact p
    | ok xs h' =>
      rw [er] at p
      have hx:=hn _ _ _ _ er
      intro μ' H' ex rel' vs rvs
      obtain ⟨items,g,e1,_,k⟩:=p μ' H' ex rel'
      rcases xs with _ | ⟨m,_ | ⟨m2,xs⟩⟩
      · simp at hx
      · obtain ⟨v,rfl,rm⟩:=Yw rvs
        simp only [itV,Option.bind_eq_some_iff] at e1
        obtain ⟨j,e2,e3⟩:=e1
        have:=yg e2; subst this
        split at e3
        next c =>
          simp only [Option.some.injEq,Prod.mk.injEq] at e3
          obtain ⟨rfl,rfl⟩:=e3
          rw [qj rm]
          exact ⟨j,rfl,c.1,c.2,k _ (zbW _ fun i=>by simp)⟩
        next=>cases e3
      · simp at hx
  · simp at hl
  · simp at hl
  · simp at hl
theorem Yb4 (hK:X.K=ct.K) {a b:Expr} {es:List Expr} {kt:Nat} {pt p pos:Pos} {ev:MSt→MH→R (List MV)} (hg:Gl X "zip") (hm:X.mg "zip"=none) (ha:PA X [a,b] (lA ct Ra E ev)) (hpl:∀ e∈[a,b],ya e=true) (hn:∀ σ h xs h',ev σ h=.ok xs h'→xs.length=2) :
    PI X (.Tuple es kt pt) (.Call (.Name "zip" p) [a,b] [] pos) (lI ct Ra E ev "zip"):=by
  refine PI.imp (k_zip X.K hg hm ha (Qm hpl) (Qm fun e he=>hpl e (by simp at he; simp [he]))) fun σ H Q q=>?_
  obtain ⟨μ,hh,σs,rel,rst,ra,p⟩:=q
  refine ⟨μ,hh,σs,rel,rst,ra,?_⟩
  cases er:ev σs hh with
  | exc c h'=>rw [er] at p; exact p
  | stuck=>rw [er] at p; exact p
  | ok xs h' =>
    rw [er] at p
    have hx:=hn _ _ _ _ er
    intro μ' H' ex rel' vs rvs
    obtain ⟨items,g,e1,_,k⟩:=p μ' H' ex rel'
    rcases xs with _ | ⟨m,_ | ⟨m2,_ | ⟨m3,xs⟩⟩⟩
    · simp at hx
    · simp at hx
    · obtain ⟨v,v',rfl,rm,rm'⟩:=qaa rvs
      simp only [itV,Option.bind_eq_some_iff,Option.map_eq_some_iff,Prod.mk.injEq] at e1
      obtain ⟨us,e2,ws,e3,rfl,rfl⟩:=e1
      obtain ⟨b1,a1,rfl,s1⟩:=Yab rel' e2 rm
      obtain ⟨b2,a2,rfl,s2⟩:=Yab rel' e3 rm'
      obtain ⟨vs1,q1,_⟩:=s1 _ _ _ (Ext.refl _ _ _) rel' (yZ e2)
      obtain ⟨vs2,q2,_⟩:=s2 _ _ _ (Ext.refl _ _ _) rel' (yZ e3)
      exact ⟨b1,b2,a1,a2,rfl,⟨vs1,q1.s hK⟩,⟨vs2,q2.s hK⟩,k _ (YbT hK s1 s2)⟩
    · simp at hx
end
theorem YF {a b:String} (h:Str.ofString a=Str.ofString b):a=b:=by
  rw [Str.ofString_eq_toList,Str.ofString_eq_toList] at h
  injection h with h
  have h2:a.toList.map Char.toNat=b.toList.map Char.toNat:=by simpa using congrArg Array.toList h
  have h3:a.toList=b.toList:=by
    refine (List.map_inj_right fun x y e=>?_).mp h2
    exact Char.ext (UInt32.toNat_inj.mp e)
  exact String.ext h3
section
variable {ct:Tx} {X:Cx} {E:XK} {Pm:Prog} {n:Nat} {Ra:L2.St→Prop} {N:List Str} {sc:Scope}
noncomputable def tst (ev:MSt→MH→R MV):MSt→MH→R Bool:=fun σ h=>(ev σ h).bind fun x h1=>opt (yB x) fun k=>.ok k h1
theorem zbr {ev:MSt→MH→R MV} {σ:L2.St} {H:Hp} {Q:Bool→Hp→Prop} (q:lT ct Ra E (tst ev) σ H Q):lE ct Ra E ev σ H fun x H'=>∃ k,x=.bl k∧Q k H':=by
  obtain ⟨μ,h,σs,rel,rst,ra,p⟩:=q
  refine lE.mk rel rst ra p fun m v μ1 h1 H1 ex rel1 rst1 rv p1=>?_
  obtain ⟨k,e,p2⟩:=Po.opt p1
  have:=Qaa e; subst this
  exact ⟨k,YaI rv,p2.now rel1⟩
theorem yav {e:Expr} {t:TE} {ev:MSt→MH→R MV} (p:PE X e t) (pt:PT X e (Zbr t)) (k:∀ σ H Q,lE ct Ra E ev σ H Q→t σ H Q):PE X e (lE ct Ra E ev)∧PT X e (lT ct Ra E (tst ev)) :=
  ⟨PE.imp p k,PT.imp pt fun σ H Q q=>k σ H _ (zbr q)⟩
theorem Ze {e:Expr} {ev:MSt→MH→R MV} (p:PE X e (lE ct Ra E ev)) (he:∀ whole,isTrue e X.env whole=(do let v←whole; standAt e.pos; holding [v] (truthy v)):=by intro _; rfl):PE X e (lE ct Ra E ev)∧PT X e (lT ct Ra E (tst ev)) :=
  ⟨p,PT.imp (zb9 p he) fun σ H Q q=>zbr q⟩
section
variable {ea eb ec:MSt→MH→R MV} {a b c:Expr} {pos:Pos}
theorem zab {v:V} {x:FV} (h:PE X a (tC v)) (r:∀ μ L H,RV ct μ L H (.f x) v):PE X a (lE ct Ra E fun _ h=>.ok (.f x) h):=PE.imp h fun σ H Q q=>by
  obtain ⟨μ,hh,σs,rel,rst,ra,p⟩:=q
  exact p.now rel v (r _ _ _)
theorem e_var {i:Nat} {x:Str} (hN:X.N[i]?=some x) (hv:visB X.env.scope x=true):PE X (.Name x pos) (lE ct Ra E fun σ h=>opt ((σ[i]?).join) fun v=>.ok v h):=by
  unfold visB at hv
  simp only [Bool.and_eq_true,Bool.or_eq_true,beq_iff_eq,Bool.not_eq_true'] at hv
  refine PE.imp (zbi hN (by rcases hv.1.1 with (h | h) | h; exact .inl h; exact .inr (.inl h); exact .inr (.inr h)) hv.1.2 hv.2) fun σ H Q q=>?_
  obtain ⟨μ,hh,σs,rel,rst,ra,p⟩:=q
  obtain ⟨m,e,p⟩:=Po.opt p
  have e':σs[i]?=some (some m):=by
    cases q:σs[i]? with
    | none=>rw [q] at e; cases e
    | some z=>rw [q] at e; exact congrArg some e
  obtain ⟨v,e2,rv⟩:=rst.at_ i m e'
  exact ⟨v,e2,p.now rel v rv⟩
theorem e_bin (fz:Bool) (op:BO) (ha:PE X a (lE ct Ra E ea)) (hb:PE X b (lE ct Ra E eb)):PE X (.BinOp a (mOp op) b pos) (lE ct Ra E fun σ h=>(ea σ h).bind fun x h1=>(eb σ h1).bind fun y h2=>zf fz op x y h2) :=
  PE.imp (pe_op (qbS (ct:=ct) (E:=E) fz op) ha hb) fun σ H Q q=>by
    obtain ⟨μ,h,σs,rel,rst,ra,p⟩:=q
    exact lE.mk rel rst ra p fun m v μ1 h1 H1 ex rel1 rst1 rv p1=>lE.mk rel1 rst1 ra p1 fun m2 v2 μ2 h2 H2 ex2 rel2 rst2 rv2 p2=>⟨μ2,h2,m,m2,rel2,rv.ext ex2,rv2,p2⟩
theorem e_neg (ha:PE X a (lE ct Ra E ea)):PE X (.UnaryOp .USub a pos) (lE ct Ra E fun σ h=>(ea σ h).bind fun x h1=>opt (qc x) fun i=>.ok (.f (.int (-i))) h1) :=
  PE.imp (pe_un QbU ha) fun σ H Q q=>by
    obtain ⟨μ,h,σs,rel,rst,ra,p⟩:=q
    refine lE.mk rel rst ra p fun m v μ1 h1 H1 ex rel1 rst1 rv p1=>?_
    obtain ⟨i,e,p2⟩:=Po.opt p1
    have:=yg e; subst this
    exact ⟨i,qj rv,p2.now rel1 _ (Qo _)⟩
theorem e_cmp (hK:X.K=ct.K) (op:CO) (hu:X.A.units + 65 < cLine) (ha:PE X a (lE ct Ra E ea)) (hb:PE X b (lE ct Ra E eb)) (hp:ya b=true) :
    PE X (.Compare a [YY op] [b] pos) (lE ct Ra E fun σ h=>(ea σ h).bind fun x h1=>(eb σ h1).bind fun y h2=>opt (qx op x y h2) fun k=>.ok (.f (.bl k)) h2) ∧
    PT X (.Compare a [YY op] [b] pos) (lT ct Ra E (tst fun σ h=>(ea σ h).bind fun x h1=>(eb σ h1).bind fun y h2=>opt (qx op x y h2) fun k=>.ok (.f (.bl k)) h2)) :=
  yav (YbJ (Y2 (ct:=ct) hK hu op) ha hb (qE hp _)) (ZbN (Y2 (ct:=ct) hK hu op) ha hb (qE hp _)) fun σ H Q q=>by
    obtain ⟨μ,h,σs,rel,rst,ra,p⟩:=q
    refine lE.mk rel rst ra p fun m v μ1 h1 H1 ex rel1 rst1 rv p1=>lE.mk rel1 rst1 ra p1 fun m2 v2 μ2 h2 H2 ex2 rel2 rst2 rv2 p2=>?_
    obtain ⟨k,e,p3⟩:=Po.opt p2
    exact ⟨μ2,h2,m,m2,k,rel2,rv.ext ex2,rv2,e,p3.now rel2 _ (zF _)⟩
theorem ybG (hK:X.K=ct.K) (op op':CO) (hu:X.A.units + 65 < cLine) (ha:PE X a (lE ct Ra E ea)) (hb:PE X b (lE ct Ra E eb)) (hc:PE X c (lE ct Ra E ec)) (hp:ya c=true) :
    PE X (.Compare a [YY op,YY op'] [b,c] pos) (lE ct Ra E fun σ h=>(ea σ h).bind fun x h1=>(eb σ h1).bind fun y h2=>opt (qx op x y h2) fun k=>if k=true then (ec σ h2).bind fun z h3=>opt (qx op' y z h3) fun k=>.ok (.f (.bl k)) h3 else .ok (.f (.bl false)) h2) ∧
    PT X (.Compare a [YY op,YY op'] [b,c] pos) (lT ct Ra E (tst fun σ h=>(ea σ h).bind fun x h1=>(eb σ h1).bind fun y h2=>opt (qx op x y h2) fun k=>if k=true then (ec σ h2).bind fun z h3=>opt (qx op' y z h3) fun k=>.ok (.f (.bl k)) h3 else .ok (.f (.bl false)) h2)) :=
  yav (Qbo (Y2 (ct:=ct) hK hu op) (Y2 (ct:=ct) hK hu op') ha hb hc (qE hp _)) (ybj (Y2 (ct:=ct) hK hu op) (Y2 (ct:=ct) hK hu op') ha hb hc (qE hp _)) fun σ H Q q=>by
    obtain ⟨μ,h,σs,rel,rst,ra,p⟩:=q
    refine lE.mk rel rst ra p fun m v μ1 h1 H1 ex rel1 rst1 rv p1=>lE.mk rel1 rst1 ra p1 fun m2 v2 μ2 h2 H2 ex2 rel2 rst2 rv2 p2=>?_
    obtain ⟨k,e,p3⟩:=Po.opt p2
    refine ⟨μ2,h2,m,m2,k,rel2,rv.ext ex2,rv2,e,k,rfl,?_⟩
    cases k with
    | false=>exact p3.now rel2 _ (zF _)
    | true =>
      refine lE.mk rel2 rst2 ra p3 fun m3 v3 μ3 h3 H3 ex3 rel3 rst3 rv3 p4=>?_
      obtain ⟨k',e',p5⟩:=Po.opt p4
      exact ⟨μ3,h3,m2,m3,k',rel3,rv2.ext ex3,rv3,e',p5.now rel3 _ (zF _)⟩
theorem Qbs {μ:List Addr} {L:Addr→Prop} {H:Hp} {m:MV} {v:V} (r:RV ct μ L H m v):Qt m=decide (v=.non):=by
  cases m with
  | f x =>
    cases x with
    | non=>simp only [RV,RF] at r; subst r; rfl
    | bl _=>simp only [RV,RF] at r; subst r; rfl
    | int _=>simp only [RV,RF] at r; subst r; rfl
    | str _=>simp only [RV,RF] at r; subst r; rfl
    | tup _=>simp only [RV,RF] at r; obtain ⟨_,_,rfl,_⟩:=r; rfl
    | lst _=>simp only [RV,RF] at r; obtain ⟨_,_,rfl,_⟩:=r; rfl
    | obj _ _ _=>simp only [RV,RF] at r; obtain ⟨_,_,_,rfl,_⟩:=r; rfl
    | scr _=>simp only [RV,RF] at r; obtain ⟨_,rfl,_⟩:=r; rfl
    | tab _=>simp only [RV,RF] at r; obtain ⟨_,_,rfl,_⟩:=r; rfl
  | ref _=>simp only [RV] at r; obtain ⟨_,_,rfl⟩:=r; rfl
  | tup _=>simp only [RV] at r; obtain ⟨_,_,rfl,_⟩:=r; rfl
  | exc _=>simp only [RV] at r; obtain ⟨_,rfl,_⟩:=r; rfl
theorem yb4 {j:Nat} {p2:Pos} (ha:PE X a (lE ct Ra E ea)) :
    PE X (.Compare a [.IsNot] [.Constant .none j p2] pos) (lE ct Ra E fun σ h=>(ea σ h).bind fun x h1=>.ok (.f (.bl (!Qt x))) h1) ∧
    PT X (.Compare a [.IsNot] [.Constant .none j p2] pos) (lT ct Ra E (tst fun σ h=>(ea σ h).bind fun x h1=>.ok (.f (.bl (!Qt x))) h1)) :=
  yav (qbV (ya2 ha)) (Yb9 (ya2 ha)) fun σ H Q q=>by
    obtain ⟨μ,h,σs,rel,rst,ra,p⟩:=q
    refine lE.mk rel rst ra p fun m v μ1 h1 H1 ex rel1 rst1 rv p1=>?_
    rw [← Qbs rv]
    exact p1.now rel1 _ (zF _)
theorem e_not (ha:PE X a (lE ct Ra E ea)) (ta:PT X a (lT ct Ra E (tst ea))) :
    PE X (.UnaryOp .Not a pos) (lE ct Ra E fun σ h=>(ea σ h).bind fun x h1=>opt (yB x) fun k=>.ok (.f (.bl (!k))) h1) ∧
    PT X (.UnaryOp .Not a pos) (lT ct Ra E (tst fun σ h=>(ea σ h).bind fun x h1=>opt (yB x) fun k=>.ok (.f (.bl (!k))) h1)):=by
  refine ⟨PE.imp (qb0 ha) fun σ H Q q=>?_,PT.imp (qbT ta) fun σ H Q q=>?_⟩
  · obtain ⟨μ,h,σs,rel,rst,ra,p⟩:=q
    refine lE.mk rel rst ra p fun m v μ1 h1 H1 ex rel1 rst1 rv p1=>?_
    obtain ⟨k,e,p2⟩:=Po.opt p1
    have:=Qaa e; subst this
    exact ⟨k,YaI rv,p2.now rel1 _ (zF _)⟩
  · obtain ⟨μ,h,σs,rel,rst,ra,p⟩:=q
    refine ⟨μ,h,σs,rel,rst,ra,?_⟩
    dsimp only [tst] at p ⊢
    cases er:ea σs h with
    | stuck=>rw [er] at p; exact p
    | exc c h'=>rw [er] at p; exact p
    | ok x h' =>
      rw [er] at p
      simp only [R.bind_ok] at p ⊢
      cases eb:yB x with
      | none=>rw [eb] at p; exact p
      | some k =>
        rw [eb] at p
        exact p
theorem e_ite (tc:PT X c (lT ct Ra E (tst ec))) (ha:PE X a (lE ct Ra E ea)) (hb:PE X b (lE ct Ra E eb)) :
    PE X (.IfExp c a b pos) (lE ct Ra E fun σ h=>(ec σ h).bind fun x h1=>opt (yB x) fun k=>if k=true then ea σ h1 else eb σ h1) :=
  PE.imp (ybv tc ha hb) fun σ H Q q=>by
    obtain ⟨μ,h,σs,rel,rst,ra,p⟩:=q
    have p':Po ct E ((tst ec σs h).bind fun k h1=>if k=true then ea σs h1 else eb σs h1) μ h H (kV ct Q):=by
      dsimp only [tst] at p ⊢
      cases er:ec σs h with
      | stuck=>rw [er] at p; exact p
      | exc c h'=>rw [er] at p; exact p
      | ok x h' =>
        rw [er] at p
        simp only [R.bind_ok] at p ⊢
        cases eb:yB x with
        | none=>rw [eb] at p; exact p
        | some k=>rw [eb] at p; exact p
    refine lT.mk rel rst ra p' fun k μ1 h1 H1 ex rel1 rst1 p1=>?_
    cases k with
    | true=>exact ⟨μ1,h1,σs,rel1,rst1,ra,p1⟩
    | false=>exact ⟨μ1,h1,σs,rel1,rst1,ra,p1⟩
theorem e_frz (ha:PE X a (lE ct Ra E ea)):PE X a (lE ct Ra E fun σ h=>(ea σ h).bind fun x h1=>qB x h1):=PE.imp ha fun σ H Q q=>by
  obtain ⟨μ,h,σs,rel,rst,ra,p⟩:=q
  refine lE.mk rel rst ra p fun m v μ1 h1 H1 ex rel1 rst1 rv p1=>?_
  obtain ⟨x,h',ex',rel',rv',k⟩:=Qbu rel1 rv p1
  exact k v rv'
theorem e_sub (hK:X.K=ct.K) (ha:PE X a (lE ct Ra E ea)) (hb:PE X b (lE ct Ra E eb)) (hp:ya b=true) :
    PE X (.Subscript a b pos) (lE ct Ra E fun σ h=>(ea σ h).bind fun x h1=>(eb σ h1).bind fun y h2=>opt (yb h2 x) fun xs=>opt (qc y) fun k=>opt (atM xs k) fun v=>.ok v h2) :=
  PE.imp (pe_ix (QbB (ct:=ct) hK) ha hb (Ybm hp)) fun σ H Q q=>by
    obtain ⟨μ,h,σs,rel,rst,ra,p⟩:=q
    refine lE.mk rel rst ra p fun m v μ1 h1 H1 ex rel1 rst1 rv p1=>lE.mk rel1 rst1 ra p1 fun m2 v2 μ2 h2 H2 ex2 rel2 rst2 rv2 p2=>?_
    obtain ⟨xs,e1,p3⟩:=Po.opt p2
    obtain ⟨k,e2,p4⟩:=Po.opt p3
    obtain ⟨w,e3,p5⟩:=Po.opt p4
    have:=yg e2; subst this
    exact ⟨μ2,h2,m,k,xs,w,rel2,rv.ext ex2,qj rv2,e1,e3,p5.now rel2⟩
end
end
section
variable {ct:Tx} {X:Cx} {E:XK} {Pm:Prog} {n:Nat} {Ra:L2.St→Prop} {N:List Str} {sc:Scope}
noncomputable def Bo (ct:Tx) (X:Cx) (Ra:L2.St→Prop) (E:XK) (Pm:Prog) (n:Nat):List ME→List Expr→Prop
  | [],[]=>True
  | m::ms,e::es=>(ya e=true∧PE X e (lE ct Ra E (Za Pm (run Pm n) m))∧(okT m=true→PT X e (lT ct Ra E (tst (Za Pm (run Pm n) m)))))∧Bo ct X Ra E Pm n ms es
  | _,_=>False
theorem Bo.pa:∀ {ms:List ME} {es:List Expr},Bo ct X Ra E Pm n ms es→PA X es (lA ct Ra E (Qf Pm (run Pm n) ms))
  | [],[],_=>PA.imp QaE fun σ H Q q=>by
    obtain ⟨μ,h,σs,rel,rst,ra,p⟩:=q
    simp only [Qf] at p
    exact p.now rel [] RVs.nil
  | [],_::_,b=>b.elim
  | _::_,[],b=>b.elim
  | m::ms,e::es,b=>PA.imp (zX b.1.2.1 (Bo.pa b.2) (yh b.1.1)) fun σ H Q q=>by
    obtain ⟨μ,h,σs,rel,rst,ra,p⟩:=q
    simp only [Qf] at p
    refine lE.mk rel rst ra p fun m' v μ1 h1 H1 ex rel1 rst1 rv p1=>?_
    refine lA.mk rel1 rst1 ra p1 fun ms' vs μ2 h2 H2 ex2 rel2 rst2 rvs p2=>?_
    exact p2.now rel2 _ (RVs.cons (rv.ext ex2) rvs)
theorem Bo.plain:∀ {ms:List ME} {es:List Expr},Bo ct X Ra E Pm n ms es→∀ e∈es,ya e=true
  | [],[],_,e,he=>by simp at he
  | [],_::_,b,_,_=>b.elim
  | _::_,[],b,_,_=>b.elim
  | m::ms,e::es,b,x,hx=>by
    rcases List.mem_cons.mp hx with rfl | hx
    · exact b.1.1
    · exact Bo.plain b.2 x hx
theorem Bo.length:∀ {ms:List ME} {es:List Expr},Bo ct X Ra E Pm n ms es→ms.length=es.length
  | [],[],_=>rfl
  | [],_::_,b=>b.elim
  | _::_,[],b=>b.elim
  | m::ms,e::es,b=>by simp [Bo.length b.2]
theorem qF {W:String→List MV→MH→R MV}:∀ {ms:List ME} {σ:MSt} {h:MH} {xs:List MV} {h':MH},Qf Pm W ms σ h=.ok xs h'→xs.length=ms.length
  | [],σ,h,xs,h',e=>by simp only [Qf,R.ok.injEq] at e; simp [← e.1]
  | m::ms,σ,h,xs,h',e=>by
    simp only [Qf] at e
    cases e1:Za Pm W m σ h with
    | stuck=>rw [e1] at e; cases e
    | exc c h2=>rw [e1] at e; cases e
    | ok x h1 =>
      rw [e1] at e
      simp only [R.bind_ok] at e
      cases e2:Qf Pm W ms σ h1 with
      | stuck=>rw [e2] at e; cases e
      | exc c h2=>rw [e2] at e; cases e
      | ok ys h2 =>
        rw [e2] at e
        simp only [R.bind_ok,R.ok.injEq] at e
        rw [← e.1,List.length_cons,List.length_cons,qF e2]
theorem QbO {pos:Pos}:∀ {ms:List ME} {es:List Expr},Bo ct X Ra E Pm n ms es→ms.all okT=true→PE X (.BoolOp .And es pos) (lE ct Ra E (qo Pm (run Pm n) ms))∧PW X (.BoolOp .And es pos) (lT ct Ra E (tst (qo Pm (run Pm n) ms)))
  | [],[],_,_=>⟨fun pins s σ H Q I q=>by
      obtain ⟨μ,h,σs,rel,rst,ra,p⟩:=q
      simp only [qo] at p
      exact p.elim,fun wh pins s σ H Q I q=>by
      obtain ⟨μ,h,σs,rel,rst,ra,p⟩:=q
      simp only [tst,qo] at p
      exact p.elim⟩
  | [],_::_,b,_=>b.elim
  | _::_,[],b,_=>b.elim
  | [m],[e],b,ht=>by
    simp at ht
    refine ⟨PE.imp (Ybx b.1.2.1) fun σ H Q q=>?_,PW.imp (ybL (b.1.2.2 ht)) fun σ H Q q=>?_⟩
    · simpa only [qo] using q
    · have:qo Pm (run Pm n) [m]=Za Pm (run Pm n) m:=by funext σ h; simp only [qo]
      rw [this] at q; exact q
  | [m],_::_::_,b,_=>b.2.elim
  | _::_::_,[_],b,_=>b.2.elim
  | m::m'::ms,e::e'::es,b,ht=>by
    have ht':okT m=true∧(m'::ms).all okT=true:=by simpa using ht
    obtain ⟨i1,i2⟩:=QbO (ms:=m'::ms) (es:=e'::es) (pos:=pos) b.2 ht'.2
    refine ⟨PE.imp (yca b.1.2.1 i1) fun σ H Q q=>?_,PW.imp (zb2 (b.1.2.2 ht'.1) i2) fun σ H Q q=>?_⟩
    · obtain ⟨μ,h,σs,rel,rst,ra,p⟩:=q
      simp only [qo] at p
      refine lE.mk rel rst ra p fun x v μ1 h1 H1 ex rel1 rst1 rv p1=>?_
      obtain ⟨k,ek,p2⟩:=Po.opt p1
      have:=Qaa ek; subst this
      refine ⟨k,YaI rv,?_⟩
      cases k with
      | true=>exact ⟨μ1,h1,σs,rel1,rst1,ra,p2⟩
      | false=>exact p2.now rel1 _ (zF _)
    · obtain ⟨μ,h,σs,rel,rst,ra,p⟩:=q
      have p':Po ct E ((tst (Za Pm (run Pm n) m) σs h).bind fun k h1=>if k=true then tst (qo Pm (run Pm n) (m'::ms)) σs h1 else .ok false h1) μ h H (fun b _ _ H'=>Q b H'):=by
        simp only [tst,qo] at p ⊢
        cases er:Za Pm (run Pm n) m σs h with
        | stuck=>rw [er] at p; exact p
        | exc c h'=>rw [er] at p; exact p
        | ok x h' =>
          rw [er] at p
          simp only [R.bind_ok] at p ⊢
          cases eb:yB x with
          | none=>rw [eb] at p; exact p
          | some k =>
            rw [eb] at p
            cases k with
            | true=>exact p
            | false=>exact p
      refine lT.mk rel rst ra p' fun k μ1 h1 H1 ex rel1 rst1 p1=>?_
      cases k with
      | true=>exact ⟨μ1,h1,σs,rel1,rst1,ra,p1⟩
      | false=>exact p1.now rel1
theorem e_or {pos:Pos}:∀ {ms:List ME} {es:List Expr},Bo ct X Ra E Pm n ms es→ms.all okT=true→PE X (.BoolOp .Or es pos) (lE ct Ra E (Zv Pm (run Pm n) ms))∧PW X (.BoolOp .Or es pos) (lT ct Ra E (tst (Zv Pm (run Pm n) ms)))
  | [],[],_,_=>⟨fun pins s σ H Q I q=>by
      obtain ⟨μ,h,σs,rel,rst,ra,p⟩:=q
      simp only [Zv] at p
      exact p.elim,fun wh pins s σ H Q I q=>by
      obtain ⟨μ,h,σs,rel,rst,ra,p⟩:=q
      simp only [tst,Zv] at p
      exact p.elim⟩
  | [],_::_,b,_=>b.elim
  | _::_,[],b,_=>b.elim
  | [m],[e],b,ht=>by
    simp at ht
    refine ⟨PE.imp (Ybx b.1.2.1) fun σ H Q q=>?_,PW.imp (Qb2 (b.1.2.2 ht)) fun σ H Q q=>?_⟩
    · simpa only [Zv] using q
    · have:Zv Pm (run Pm n) [m]=Za Pm (run Pm n) m:=by funext σ h; simp only [Zv]
      rw [this] at q; exact q
  | [m],_::_::_,b,_=>b.2.elim
  | _::_::_,[_],b,_=>b.2.elim
  | m::m'::ms,e::e'::es,b,ht=>by
    have ht':okT m=true∧(m'::ms).all okT=true:=by simpa using ht
    obtain ⟨i1,i2⟩:=e_or (ms:=m'::ms) (es:=e'::es) (pos:=pos) b.2 ht'.2
    refine ⟨PE.imp (pe_or b.1.2.1 i1) fun σ H Q q=>?_,PW.imp (pw_or (b.1.2.2 ht'.1) i2) fun σ H Q q=>?_⟩
    · obtain ⟨μ,h,σs,rel,rst,ra,p⟩:=q
      simp only [Zv] at p
      refine lE.mk rel rst ra p fun x v μ1 h1 H1 ex rel1 rst1 rv p1=>?_
      obtain ⟨k,ek,p2⟩:=Po.opt p1
      have:=Qaa ek; subst this
      refine ⟨k,YaI rv,?_⟩
      cases k with
      | false=>exact ⟨μ1,h1,σs,rel1,rst1,ra,p2⟩
      | true=>exact p2.now rel1 _ (zF _)
    · obtain ⟨μ,h,σs,rel,rst,ra,p⟩:=q
      have p':Po ct E ((tst (Za Pm (run Pm n) m) σs h).bind fun k h1=>if k=true then .ok true h1 else tst (Zv Pm (run Pm n) (m'::ms)) σs h1) μ h H (fun b _ _ H'=>Q b H'):=by
        simp only [tst,Zv] at p ⊢
        cases er:Za Pm (run Pm n) m σs h with
        | stuck=>rw [er] at p; exact p
        | exc c h'=>rw [er] at p; exact p
        | ok x h' =>
          rw [er] at p
          simp only [R.bind_ok] at p ⊢
          cases eb:yB x with
          | none=>rw [eb] at p; exact p
          | some k =>
            rw [eb] at p
            cases k with
            | true=>exact p
            | false=>exact p
      refine lT.mk rel rst ra p' fun k μ1 h1 H1 ex rel1 rst1 p1=>?_
      cases k with
      | false=>exact ⟨μ1,h1,σs,rel1,rst1,ra,p1⟩
      | true=>exact p1.now rel1
section
variable {ea:MSt→MH→R MV} {es:List Expr} {ev:MSt→MH→R (List MV)} {a:Expr} {pos:Pos}
theorem e_tup {k:Nat} (ha:PA X es (lA ct Ra E ev)) (hl:∀ σ h xs h',ev σ h=.ok xs h'→xs.length≤sizeLine):PE X (.Tuple es k pos) (lE ct Ra E fun σ h=>(ev σ h).bind fun xs h1=>.ok (Zg xs) h1):=PE.imp (yb1 ha) fun σ H Q q=>by
  obtain ⟨μ,h,σs,rel,rst,ra,p⟩:=q
  refine ⟨μ,h,σs,rel,rst,ra,?_⟩
  dsimp only at p
  cases er:ev σs h with
  | stuck=>rw [er] at p; exact p
  | exc c h'=>rw [er] at p; exact p
  | ok xs h' =>
    rw [er] at p
    intro μ1 H1 ex rel1 vs rvs
    exact ⟨by rw [rvs.length]; exact hl _ _ _ _ er,yS rel1 rvs (Po.start ex p)⟩
theorem e_lst (fz:Bool) (ha:PA X es (lA ct Ra E ev)) (hl:∀ σ h xs h',ev σ h=.ok xs h'→xs.length≤sizeLine):PE X (.List es pos) (lE ct Ra E fun σ h=>(ev σ h).bind fun xs h1=>Zq fz xs h1):=PE.imp (YbV ha) fun σ H Q q=>by
  obtain ⟨μ,h,σs,rel,rst,ra,p⟩:=q
  refine ⟨μ,h,σs,rel,rst,ra,?_⟩
  dsimp only at p
  cases er:ev σs h with
  | stuck=>rw [er] at p; exact p
  | exc c h'=>rw [er] at p; exact p
  | ok xs h' =>
    rw [er] at p
    intro μ1 H1 ex rel1 vs rvs
    exact ⟨by rw [rvs.length]; exact hl _ _ _ _ er,YA rel1 rvs (Po.start ex p)⟩
theorem PO.imp {e:Option Expr} {t t':TO} (p:PO X e t) (k:∀ σ H Q,t' σ H Q→t σ H Q):PO X e t':=fun pins s σ H Q I h=>p pins s σ H Q I (k σ H Q h)
theorem ybz (hK:X.K=ct.K) (fz:Bool) {lo hi:Option Expr} {el eh:MSt→MH→R (Option Int)} {p2:Pos} (ha:PE X a (lE ct Ra E ea)) (hl:PO X lo (lO ct Ra E el)) (hh:PO X hi (lO ct Ra E eh)) :
    PE X (.Subscript a (.Slice lo hi none p2) pos) (lE ct Ra E fun σ h=>(ea σ h).bind fun x h1=>(el σ h1).bind fun l h2=>(eh σ h2).bind fun u h3=>Y0 fz x l u h3) :=
  PE.imp (Qbn (qbB (ct:=ct) (E:=E) hK fz) ha hl hh) fun σ H Q q=>by
    obtain ⟨μ,h,σs,rel,rst,ra,p⟩:=q
    refine lE.mk rel rst ra p fun m v μ1 h1 H1 ex rel1 rst1 rv p1=>?_
    refine lO.mk rel1 rst1 ra p1 fun l μ2 h2 H2 ex2 rel2 rst2 p2=>?_
    refine lO.mk rel2 rst2 ra p2 fun u μ3 h3 H3 ex3 rel3 rst3 p3=>?_
    exact ⟨μ3,h3,m,rel3,(rv.ext ex2).ext ex3,p3⟩
theorem qa4 {L:Addr→Prop} {H:Hp} {f:String}:∀ {ns:List String} {xs:List FV} {fs:List (Str×V)} {x:FV},fs.map Prod.fst=ns.map Str.ofString→RFs ct L H xs (fs.map Prod.snd)→zaj f ns xs=some x→∃ v,fs.lookup (Str.ofString f)=some v∧RF ct L H x v
  | [],_,_,_,_,_,e=>by simp [zaj] at e
  | _::_,[],_,_,_,_,e=>by simp [zaj] at e
  | m::ns,y::xs,fs,x,h1,h2,e=>by
    cases fs with
    | nil=>simp at h1
    | cons p fs =>
      obtain ⟨k,u⟩:=p
      simp only [List.map_cons,List.cons.injEq] at h1
      simp only [List.map_cons,RFs] at h2
      obtain ⟨v,r,hvr,r1,r2⟩:=h2
      simp only [List.cons.injEq] at hvr
      obtain ⟨rfl,rfl⟩:=hvr
      simp only [zaj] at e
      by_cases hf:f=m
      · subst hf
        simp at e; subst e
        exact ⟨u,by simp [List.lookup_cons,h1.1],r1⟩
      · rw [if_neg hf] at e
        obtain ⟨w,q1,q2⟩:=qa4 h1.2 r2 e
        refine ⟨w,?_,q2⟩
        have:(Str.ofString f == k)=false:=by
          rw [h1.1]
          exact beq_false_of_ne fun z=>hf (YF z)
        simp [List.lookup_cons,this,q1]
theorem Qa3 {μ:List Addr} {L:Addr→Prop} {H:Hp} {f:String}:∀ {fs:List (String×MV)} {gs:List (Str×V)} {m:MV},gs.map Prod.fst=fs.map (fun p=>Str.ofString p.1)→RVs ct μ L H (fs.map Prod.snd) (gs.map Prod.snd)→fs.lookup f=some m→∃ v,gs.lookup (Str.ofString f)=some v∧RV ct μ L H m v
  | [],_,_,_,_,e=>by simp at e
  | (k,y)::fs,gs,m,h1,h2,e=>by
    cases gs with
    | nil=>simp at h1
    | cons p gs =>
      obtain ⟨k',u⟩:=p
      simp only [List.map_cons,List.cons.injEq] at h1
      simp only [List.map_cons,RVs] at h2
      obtain ⟨v,r,hvr,r1,r2⟩:=h2
      simp only [List.cons.injEq] at hvr
      obtain ⟨rfl,rfl⟩:=hvr
      by_cases hf:f=k
      · subst hf
        simp [List.lookup_cons] at e; subst e
        exact ⟨u,by simp [List.lookup_cons,h1.1],r1⟩
      · have hb:(f == k)=false:=beq_false_of_ne hf
        simp [List.lookup_cons,hb] at e
        obtain ⟨w,q1,q2⟩:=Qa3 h1.2 r2 e
        refine ⟨w,?_,q2⟩
        have:(Str.ofString f == k')=false:=by
          rw [h1.1]
          exact beq_false_of_ne fun z=>hf (YF z)
        simp [List.lookup_cons,this,q1]
theorem Rel.obj {μ:List Addr} {h:MH} {H:Hp} (rel:Rel ct μ h H) {i:Nat} {c:String} {fs:List (String×MV)} (e:h[i]?=some (.obj c fs)):∃ b dx gs,μ[i]?=some b∧H b=some (.ins (ct c) dx gs)∧gs.map Prod.fst=fs.map (fun p=>Str.ofString p.1)∧RVs ct μ (Liv μ h) H (fs.map Prod.snd) (gs.map Prod.snd):=by
  have hi:i < μ.length:=by rw [rel.len]; exact (List.getElem?_eq_some_iff.mp e).1
  obtain ⟨dx,gs,q1,q2,q3⟩:=rel.cells i μ[i] _ (by simp [hi]) e
  exact ⟨_,dx,gs,by simp [hi],q1,q2,q3⟩
theorem e_fld {f:String} (T:Txt X.prog X.w X.K X.mg X.base Pm ct n) (ha:PE X a (lE ct Ra E ea)) (hn:yn a=true):PE X (.Attribute a (Str.ofString f) pos) (lE ct Ra E fun σ h=>(ea σ h).bind fun x h1=>opt (YaL Pm.fok f x h1) fun v=>.ok v h1) :=
  PE.imp (k_fld X.K ha (YR hn)) fun σ H Q q=>by
    obtain ⟨μ,h,σs,rel,rst,ra,p⟩:=q
    refine lE.mk rel rst ra p fun m v μ1 h1 H1 ex rel1 rst1 rv p1=>?_
    obtain ⟨w,e,p2⟩:=Po.opt p1
    unfold YaL at e
    split at e
    next c ns xs =>
      split at e
      next ok =>
        simp only [Option.map_eq_some_iff] at e
        obtain ⟨x,e1,rfl⟩:=e
        simp only [RV,RF] at rv
        obtain ⟨b,dx,fs,rfl,nl,hb,q1,q2⟩:=rv
        obtain ⟨u,e2,ru⟩:=qa4 q1 q2 e1
        obtain ⟨t1,t2⟩:=T.fok c f ok
        exact ⟨b,ct c,dx,fs,u,rfl,hb,t1,t2,e2,p2.now rel1 u (by simp only [RV]; exact ru)⟩
      next=>cases e
    next i =>
      split at e
      next c fs ec =>
        split at e
        next ok =>
          simp only [RV] at rv
          obtain ⟨b,eb,rfl⟩:=rv
          obtain ⟨b',dx,gs,eb',hb,q1,q2⟩:=rel1.obj ec
          rw [eb] at eb'; cases eb'
          obtain ⟨u,e2,ru⟩:=Qa3 q1 q2 e
          obtain ⟨t1,t2⟩:=T.fok c f ok
          exact ⟨b,ct c,dx,gs,u,rfl,hb,t1,t2,e2,p2.now rel1 u ru⟩
        next=>cases e
      next=>cases e
    next=>cases e
end
end
section
variable {ct:Tx} {X:Cx} {E:XK} {Pm:Prog} {n:Nat} {Ra:L2.St→Prop} {N:List Str} {sc:Scope}
section
variable {ea:MSt→MH→R MV} {v:Expr} {es:List Expr} {ev:MSt→MH→R (List MV)} {a:Expr} {p pos:Pos}
theorem ZbX {f:String} {d:MDef} (c:Cc X Pm ct n Ra E N sc) (hd:Pm.defs f=some d) (hdot:f.toList.contains '.'=false) (hg:gl sc (Str.ofString f)=true) (ha:PA X (v::es) (lA ct Ra E ev)) (hpl:∀ e∈v::es,ya e=true) :
    PE X (.Call (.Name (Str.ofString f) p) (v::es) [] pos) (lE ct Ra E fun σ h=>(ev σ h).bind fun xs h1=>run Pm n f xs h1):=by
  obtain ⟨g1,g2,g3⟩:=zH c.sc hg
  obtain ⟨ps,D⟩:=c.txt.defs f d hd hdot
  intro pins s σ H Q I q
  obtain ⟨μ,h,σs,rel,rst,ra,p⟩:=q
  refine Yba (σ0:=σ) D (c.room.mono (by omega)) g1 (c.pas σ ra) ha g2 (yh (hpl v (by simp))) (Qs fun e he=>hpl e (by simp [he])) pins s σ H Q I ⟨rfl,?_⟩
  refine lA.mk rel rst ra p fun ms vs μ1 h1 H1 ex rel1 rst1 rvs p1=>?_
  exact ⟨μ1,h1,ms,rel1,by simpa using rvs,p1⟩
theorem zcb (fz:Bool) {cn f:String} (c:Cc X Pm ct n Ra E N sc) (hi:Pm.meths cn "__init__"=some f) (hg:gl sc (Str.ofString cn)=true) (ha:PA X (v::es) (lA ct Ra E ev)) (hpl:∀ e∈v::es,ya e=true) :
    PE X (.Call (.Name (Str.ofString cn) p) (v::es) [] pos) (lE ct Ra E fun σ h=>(ev σ h).bind fun xs h1=>Z5 Pm (run Pm n) fz cn xs h1):=by
  obtain ⟨g1,g2,g3⟩:=zH c.sc hg
  obtain ⟨ps,D⟩:=c.txt.inits cn f hi
  intro pins s σ H Q I q
  obtain ⟨μ,h,σs,rel,rst,ra,p⟩:=q
  refine qbc (σ0:=σ) D c.room g1 (c.pas σ ra) ha g2 (yh (hpl v (by simp))) (Qs fun e he=>hpl e (by simp [he])) pins s σ H Q I ⟨rfl,?_⟩
  refine lA.mk rel rst ra p fun ms vs μ1 h1 H1 ex rel1 rst1 rvs p1=>?_
  intro x dx hx hdx hne
  have hx':upd H1 dx (.own x) x=none:=by rw [Zb (Ne.symm hne)]; exact hx
  have ex1:=Ext.new rel1 hdx (.own x)
  have rel2:=rel1.new hdx (.own x)
  have ex2:=Ext.cell rel2 hx' (.obj cn []) (.ins (ct cn) dx [])
  have rel3:Rel ct (μ1++[x]) (h1++[.obj cn []]) (upd (upd H1 dx (.own x)) x (.ins (ct cn) dx [])):=rel2.cell hx' ⟨dx,[],yd,rfl,RVs.nil⟩
  have ex3:=ex1.trans ex2
  refine ⟨μ1++[x],h1++[.obj cn []],.ref h1.length::ms,rel3,RVs.cons ?_ (by simpa using rvs.ext ex3),?_⟩
  · simp only [RV]
    exact ⟨x,by rw [← rel1.len]; simp,rfl⟩
  · unfold Z5 at p1
    rw [hi] at p1
    dsimp only at p1
    cases er:run Pm n f (.ref h1.length::ms) (h1++[.obj cn []]) with
    | stuck=>rw [er] at p1; exact p1.elim
    | exc c h2=>rw [er] at p1; exact fun μ2 H2 ex4 rel4=>p1 μ2 H2 (ex3.trans ex4) rel4
    | ok m h2 =>
      rw [er] at p1
      simp only [R.bind_ok] at p1
      intro μ2 H2 ex4 rel4 u ru
      have hnon:Qt m=true:=by
        cases em:Qt m with
        | true=>rfl
        | false=>rw [em] at p1; simp only [if_true] at p1; exact p1.elim
      rw [hnon] at p1
      simp only [Bool.true_eq_false,if_false] at p1
      rw [Qbs ru] at hnon
      refine ⟨of_decide_eq_true hnon,?_⟩
      have ext:=ex3.trans ex4
      obtain ⟨ν,eν⟩:=ex4.pre
      rw [List.append_assoc] at eν
      subst eν
      have hx2:(μ1++([x]++ν))[h1.length]?=some x:=by rw [← rel1.len]; simp
      cases fz with
      | false=>exact p1 _ H2 ext rel4 _ (by simp only [RV]; exact ⟨x,hx2,rfl⟩)
      | true =>
        dsimp only at p1
        split at p1
        next c' fs ec =>
          obtain ⟨ys,ey,p4⟩:=Po.opt p1
          split at p4
          next t =>
            obtain ⟨b,dx',gs,eb,hb,q1,q2⟩:=rel4.obj ec
            rw [hx2] at eb; cases eb
            have nx:x∉μ1:=rel1.fresh hx
            refine p4 μ1 H2 (Ext.cut rel1.len ext) (rel1.cut t rel4) (.ref x) ?_
            simp only [RV,RF]
            refine ⟨x,dx',gs,rfl,fun l=>?_,hb,?_,?_⟩
            · obtain ⟨i,_,e1,_,_⟩:=l
              exact nx (List.mem_of_getElem? e1)
            · rw [q1,List.map_map]; rfl
            · exact RFs.to ⟨fun _ _ e _=>e,fun b _ _ nl l=>nl (Liv.cut rel1.len l)⟩ (RVs.toF ey q2)
          next=>exact p4.elim
        next=>exact p1.elim
theorem YaE (fz:Bool) {id:String} (c:Cc X Pm ct n Ra E N sc) (hx:id∈fnNames) (hg:gl sc (Str.ofString id)=true) (hb:bootBuiltins (Str.ofString id)=some (.builtin id)) (hr:CallR X (.builtin id) (rB ct E fz id)) (ha:PA X (v::es) (lA ct Ra E ev)) (hpl:∀ e∈v::es,ya e=true) :
    PE X (.Call (.Name (Str.ofString id) p) (v::es) [] pos) (lE ct Ra E fun σ h=>(ev σ h).bind fun xs h1=>Yv fz id xs h1):=by
  obtain ⟨g1,g2,g3⟩:=zH c.sc hg
  have hm:=c.txt.blts id (by simp [hx])
  refine PE.imp (zai hr g1 hm hb ha g3 g2 (yh (hpl v (by simp))) (Qs fun e he=>hpl e (by simp [he]))) fun σ H Q q=>?_
  obtain ⟨μ,h,σs,rel,rst,ra,p⟩:=q
  exact lA.mk rel rst ra p fun ms vs μ1 h1 H1 ex rel1 rst1 rvs p1=>⟨μ1,h1,ms,rel1,rvs,p1⟩
theorem zbo (fz:Bool) {id:String} (c:Cc X Pm ct n Ra E N sc) (hx:id∈tyNames) (hg:gl sc (Str.ofString id)=true) (hb:bootBuiltins (Str.ofString id)=some (.type id)) (hr:CallR X (.type id) (rB ct E fz id)) (ha:PA X (v::es) (lA ct Ra E ev)) (hpl:∀ e∈v::es,ya e=true) :
    PE X (.Call (.Name (Str.ofString id) p) (v::es) [] pos) (lE ct Ra E fun σ h=>(ev σ h).bind fun xs h1=>Yv fz id xs h1):=by
  obtain ⟨g1,g2,g3⟩:=zH c.sc hg
  have hm:=c.txt.blts id (by simp [hx])
  refine PE.imp (Yaq hr g1 hm hb ha g3 g2 (yh (hpl v (by simp))) (Qs fun e he=>hpl e (by simp [he]))) fun σ H Q q=>?_
  obtain ⟨μ,h,σs,rel,rst,ra,p⟩:=q
  exact lA.mk rel rst ra p fun ms vs μ1 h1 H1 ex rel1 rst1 rvs p1=>⟨μ1,h1,ms,rel1,rvs,p1⟩
theorem e_blt (fz:Bool) {id:String} (c:Cc X Pm ct n Ra E N sc) (hx:id∈fnNames∨id∈tyNames) (hg:gl sc (Str.ofString id)=true) (ha:PA X (v::es) (lA ct Ra E ev)) (hpl:∀ e∈v::es,ya e=true) :
    PE X (.Call (.Name (Str.ofString id) p) (v::es) [] pos) (lE ct Ra E fun σ h=>(ev σ h).bind fun xs h1=>Yv fz id xs h1):=by
  rcases hx with hx | hx
  · have hx':=hx
    simp only [fnNames,List.mem_cons,List.not_mem_nil,or_false] at hx'
    rcases hx' with rfl | rfl | rfl | rfl
    · exact YaE fz c hx hg (by decide +kernel) (ycb c.hK fz) ha hpl
    · exact YaE fz c hx hg (by decide +kernel) (ybW c.hK fz c.calm) ha hpl
    · exact YaE fz c hx hg (by decide +kernel) (ybY c.hK fz c.calm) ha hpl
    · exact YaE fz c hx hg (by decide +kernel) (qb9 c.hK fz c.calm) ha hpl
  · have hx':=hx
    simp only [tyNames,List.mem_cons,List.not_mem_nil,or_false] at hx'
    rcases hx' with rfl | rfl
    · exact zbo fz c hx hg (by decide +kernel) (qbp c.hK fz) ha hpl
    · exact zbo fz c hx hg (by decide +kernel) (Qby c.hK fz) ha hpl
theorem Ybh {t:String} (h:t∈isTys):bootBuiltins (Str.ofString t)=some (.type t):=by
  simp only [isTys,List.mem_cons,List.not_mem_nil,or_false] at h
  rcases h with rfl | rfl | rfl | rfl | rfl | rfl <;> decide +kernel
end
end
noncomputable def bb (T U:String):Bool:=decide (U=T) || (decide (T="bool")&&decide (U="int"))
theorem qbU {K:PySem.W.Frag} {T U:String} (h:T∈["NoneType","bool","int","str","list","tuple"]) (h':U∈isTys):PySem.W.kitOne K (.type T) (.type U)=some (bb T U):=by
  simp only [isTys,List.mem_cons,List.not_mem_nil,or_false] at h h'
  rcases h with rfl | rfl | rfl | rfl | rfl | rfl <;> rcases h' with rfl | rfl | rfl | rfl | rfl | rfl <;> rfl
section
variable {ct:Tx} {X:Cx} {E:XK} {Pm:Prog} {n:Nat} {Ra:L2.St→Prop} {N:List Str} {sc:Scope}
noncomputable def QI (h:MH):MV→Option String
  | .f .non=>some "NoneType"
  | .f (.bl _)=>some "bool"
  | .f (.int _)=>some "int"
  | .f (.str _)=>some "str"
  | .f (.tup _)=>some "tuple"
  | .f (.lst _)=>some "list"
  | .tup _=>some "tuple"
  | .ref a=>match h[a]? with
    | some (.lst _)=>some "list"
    | _=>none
  | _=>none
theorem ZaG {h:MH} {m:MV} {T:String} (e:QI h m=some T):T∈["NoneType","bool","int","str","list","tuple"]:=by
  unfold QI at e
  split at e
  all_goals first | (cases e; simp; done) | skip
  · split at e
    next=>cases e; simp
    next=>cases e
  · cases e
theorem QbA {K:PySem.W.Frag} {μ:List Addr} {h:MH} {H:Hp} {m:MV} {v:V} {T:String} (rel:Rel ct μ h H) (e:QI h m=some T) (r:RV ct μ (Liv μ h) H m v):TyOf K H v (.type T):=by
  unfold QI at e
  split at e
  next=>cases e; simp only [RV,RF] at r; subst r; exact .non
  next=>cases e; simp only [RV,RF] at r; subst r; exact .bl _
  next=>cases e; simp only [RV,RF] at r; subst r; exact .int _
  next=>cases e; simp only [RV,RF] at r; subst r; exact .str _
  next=>cases e; simp only [RV,RF] at r; obtain ⟨_,_,rfl,_,hb,_⟩:=r; exact .tup hb
  next =>
    cases e; simp only [RV,RF] at r
    obtain ⟨_,_,rfl,_,hb,_⟩:=r
    rcases hb with hb | ⟨o,hb⟩
    · exact .lst hb
    · exact .frz hb
  next=>cases e; simp only [RV] at r; obtain ⟨_,_,rfl,_,hb,_⟩:=r; exact .tup hb
  next i =>
    split at e
    next xs q =>
      cases e
      simp only [RV] at r
      obtain ⟨b,eb,rfl⟩:=r
      obtain ⟨b',vs,eb',hb,_⟩:=rel.lst (show ze h i=some xs by unfold ze; rw [q])
      rw [eb] at eb'; cases eb'
      exact .lst hb
    next=>cases e
  next=>cases e
theorem ybB {subs:String→String→Option Bool} {h:MH} {m:MV} {t T:String} {b:Bool} (e:QI h m=some T) (q:YU subs h m t=some b) (hn:t≠"NoneType"):b=bb T t:=by
  unfold QI at e
  split at e
  next=>cases e; cases q; simp [bb,hn]
  next=>cases e; cases q; simp [bb]
  next=>cases e; cases q; simp [bb]
  next=>cases e; cases q; simp [bb]
  next=>cases e; cases q; simp [bb]
  next=>cases e; cases q; simp [bb]
  next=>cases e; cases q; simp [bb]
  next i =>
    split at e
    next xs w =>
      cases e
      simp only [YU,w,Option.some.injEq] at q
      rw [← q]; simp [bb]
    next=>cases e
  next=>cases e
theorem Zb1 {μ:List Addr} {h:MH} {H:Hp} {m:MV} {v:V} {t:String} {b:Bool} (T:Txt X.prog X.w X.K X.mg X.base Pm ct n) (rel:Rel ct μ h H) (r:RV ct μ (Liv μ h) H m v) (q:YU Pm.subs h m t=some b) (ht:isTys.contains t=true∨(Pm.subs t t).isSome=true) :
    ∃ tv,TyOf X.K H v tv∧PySem.W.kitOne X.K tv (if isTys.contains t=true then .type t else .ref (ct t))=some b:=by
  cases ek:QI h m with
  | some Tn =>
    refine ⟨.type Tn,QbA rel ek r,?_⟩
    by_cases hb:isTys.contains t=true
    · rw [if_pos hb]
      have hm:t∈isTys:=by simpa using hb
      have hn:t≠"NoneType":=by
        rintro rfl
        simp [isTys] at hm
      rw [ybB ek q hn]
      exact qbU (ZaG ek) hm
    · rw [if_neg hb]
      have hb':isTys.contains t=false:=by simpa using hb
      obtain ⟨b0,e0⟩:=Option.isSome_iff_exists.mp (ht.resolve_left hb)
      have hk:=T.tyC t t b0 e0 hb' Tn (ZaG ek)
      rw [hk]
      have hm:t∉isTys:=by simpa using hb'
      simp only [isTys,List.mem_cons,List.not_mem_nil,or_false,not_or] at hm
      unfold QI at ek
      split at ek
      next=>cases ek; cases q; rfl
      next=>cases ek; cases q; simp [hm]
      next=>cases ek; cases q; simp [hm]
      next=>cases ek; cases q; simp [hm]
      next=>cases ek; cases q; simp [hm]
      next=>cases ek; cases q; simp [hm]
      next=>cases ek; cases q; simp [hm]
      next i =>
        split at ek
        next xs w =>
          simp only [YU,w,Option.some.injEq] at q
          rw [← q]; simp [hm]
        next=>cases ek
      next=>cases ek
  | none =>
    have obj:∃ c a dx fs,v=.ref a∧H a=some (.ins (ct c) dx fs)∧Pm.subs c t=some b:=by
      cases m with
      | f x =>
        cases x with
        | obj c ns vs =>
          simp only [RV,RF] at r
          obtain ⟨a,dx,fs,rfl,_,hb,_⟩:=r
          exact ⟨c,a,dx,fs,rfl,hb,q⟩
        | scr _=>cases q
        | tab _=>cases q
        | _=>simp [QI] at ek
      | tup _=>simp [QI] at ek
      | exc _=>cases q
      | ref i =>
        simp only [YU] at q
        split at q
        next xs w=>simp [QI,w] at ek
        next c fs w =>
          obtain ⟨a,dx,gs,ea,hb,_⟩:=rel.obj w
          simp only [RV] at r
          obtain ⟨a',ea',rfl⟩:=r
          rw [ea] at ea'; cases ea'
          exact ⟨c,a,dx,gs,rfl,hb,q⟩
        next=>cases q
    obtain ⟨c,a,dx,fs,rfl,hb,q⟩:=obj
    have C:=T.cls c t b q
    refine ⟨.ref (ct c),.ins hb C.cl C.ha C.hn C.tk C.hm,?_⟩
    by_cases hb:isTys.contains t=true
    · rw [if_pos hb]; exact T.subT c t b q hb
    · rw [if_neg hb]; exact (T.subC c t b q (by simpa using hb)).2
section
variable {ea:MSt→MH→R MV} {v:Expr} {es:List Expr} {ev:MSt→MH→R (List MV)} {a:Expr} {p p2 pos:Pos}
theorem e_isI {t:String} (c:Cc X Pm ct n Ra E N sc) (ht:isTys.contains t=true∨(Pm.subs t t).isSome=true) (hg:gl sc "isinstance"=true) (hgt:gl sc (Str.ofString t)=true) (ha:PE X a (lE ct Ra E ea)) (hp:ya a=true) :
    PE X (.Call (.Name "isinstance" p) [a,.Name (Str.ofString t) p2] [] pos) (lE ct Ra E fun σ h=>(ea σ h).bind fun x h1=>opt (YU Pm.subs h1 x t) fun k=>.ok (.f (.bl k)) h1):=by
  obtain ⟨g1,g2,g3⟩:=zH c.sc hg
  obtain ⟨k1,k2,k3⟩:=zH c.sc hgt
  have hm:X.mg "isinstance"=none:=c.txt.blts "isinstance" (by simp)
  have tyE:∃ cv,clsV cv=some (if isTys.contains t=true then .type t else .ref (ct t))∧PE X (.Name (Str.ofString t) p2) (tC cv):=by
    by_cases hb:isTys.contains t=true
    · rw [if_pos hb]
      have hm':t∈isTys:=by simpa using hb
      exact ⟨.ty t,rfl,YbD (v:=.ty t) k1 (c.txt.blts t (by simp [hm'])) (Ybh hm') rfl k3 k2⟩
    · rw [if_neg hb]
      obtain ⟨b0,e0⟩:=Option.isSome_iff_exists.mp (ht.resolve_left hb)
      exact ⟨.ref (ct t),rfl,Ya2 (v:=.ref (ct t)) k1 (c.txt.subC t t b0 e0 (by simpa using hb)).1 rfl k2⟩
  obtain ⟨cv,ecv,pe⟩:=tyE
  refine PE.imp (zai (k_isi X.K) g1 hm boot_isinstance (zX ha (zX pe QaE (by rfl)) (yh hp)) g3 g2 (yh hp) (by rfl)) fun σ H Q q=>?_
  obtain ⟨μ,h,σs,rel,rst,ra,p⟩:=q
  refine lE.mk rel rst ra p fun m w μ1 h1 H1 ex rel1 rst1 rv p1=>?_
  obtain ⟨k,e,p2⟩:=Po.opt p1
  obtain ⟨tv,ty,kit⟩:=Zb1 c.txt rel1 rv e ht
  exact ⟨w,cv,tv,_,k,rfl,ecv,ty,kit,p2.now rel1 _ (zF _)⟩
theorem ZbZ {K:PySem.W.Frag} {mo:MV} {xs:List MV} {μ:List Addr} {h:MH} {H:Hp} {x:V} (rel:Rel ct μ h H) (r:RV ct μ (Liv μ h) H mo x) (e:lmC mo h=some xs):tyV K "list" x H:=by
  cases mo with
  | ref i =>
    obtain ⟨b,vs,e1,e2,q⟩:=rel.lst (show ze h i=some xs from e)
    simp only [RV] at r
    obtain ⟨b',e3,rfl⟩:=r
    rw [e1] at e3; cases e3
    exact .inl ⟨rfl,vs,SqL.of e2⟩
  | f _=>cases e
  | tup _=>cases e
  | exc _=>cases e
theorem Yar {env : Env} {cp : Pos} {es : List Expr} (h : ∀ e ∈ es, ya e = true) (hl : es.length < 30) : ((backTo cp (starEach es env)).all (fun x => !x.1) && (backToKw cp (keywordEach [] env)).all (fun x => x.1.isSome)
      && decide (es.length + ([]:List Keyword).length + (if ([]:List Keyword).isEmpty then 0 else 1) < 30))=true:=by
  rw [Qm h]
  have h1:(backTo cp (es.map fun e=>(false,eval e env))).all (fun x=>!x.1)=true:=by
    unfold backTo
    rw [List.map_map,List.all_map]
    induction es with
    | nil=>rfl
    | cons e es ih=>simp [Function.comp]
  rw [h1]
  simp [keywordEach,backToKw]
  exact hl
theorem qbP {m id:String} {ap cp:Pos} (slot:Slot "list" (Str.ofString m) id) (hty:typeOf (.builtin id)=pure (.type "method_descriptor")) (hr:MtR X id (rLm ct E m)) (ho:PE X a (lE ct Ra E ea)) (hn:yn a=true) (ha:PA X (v::es) (lA ct Ra E ev)) (hpl:∀ e∈v::es,ya e=true)
    (hl:(v::es).length < 30) (hline:(ap.endLine == cp.line)=true):PE X (.Call (.Attribute a (Str.ofString m) ap) (v::es) [] cp) (lE ct Ra E fun σ h=>(ea σ h).bind fun x h1=>opt (lmC x h1) fun _=>(ev σ h1).bind fun xs h2=>lmV m x xs h2) :=
  PE.imp (pe_bm PySem.F.plainAttrs_list slot hty hr ho ha (YR hn) (Yar hpl hl) hline (yh (hpl v (by simp))) (Qs fun e he=>hpl e (by simp [he]))) fun σ H Q q=>by
    obtain ⟨μ,h,σs,rel,rst,ra,p⟩:=q
    refine lE.mk rel rst ra p fun m' w μ1 h1 H1 ex rel1 rst1 rv p1=>?_
    obtain ⟨xs,ex1,p2⟩:=Po.opt p1
    refine ⟨ZbZ rel1 rv ex1,?_⟩
    exact lA.mk rel1 rst1 ra p2 fun ms vs μ2 h2 H2 ex2 rel2 rst2 rvs p3=>⟨μ2,h2,m',ms,rel2,rv.ext ex2,rvs,p3⟩
theorem ZP {h:MH} {v:MV} {ks:List Int} (e:Q5 h v=some ks):∃ i,v=.ref i∧h[i]?=some (.dic ks):=by
  cases v with
  | ref i =>
    simp only [Q5] at e
    split at e
    next ks' w=>cases e; exact ⟨i,rfl,w⟩
    next=>cases e
  | f _=>cases e
  | tup _=>cases e
  | exc _=>cases e
noncomputable abbrev dKs (ks:List Int):List (Key×V):=ks.map fun k=>((Sum.inl k:Key),V.bl true)
theorem zag (ks:List Int) (k:Int):QC (dKs ks) (Sum.inl k:Key) (V.bl true)=dKs (zu ks k):=by
  unfold QC zu dKs
  have e:((ks.map fun k=>((Sum.inl k:Key),V.bl true)).any fun kv=>decide (kv.1=Sum.inl k))=decide (k∈ks):=by
    rw [List.any_map]
    induction ks with
    | nil=>rfl
    | cons a ks ih =>
      rw [List.any_cons,ih]
      by_cases h:a=k
      · subst h; simp
      · have h':¬ k=a:=fun z=>h z.symm
        simp [h,h']
  rw [e]
  by_cases h:k∈ks
  · simp only [h,decide_true,if_true,List.map_map]
    refine List.map_congr_left fun a _=>?_
    simp only [Function.comp]
    split <;> rfl
  · simp [h]
theorem ZbI {b:Expr} {eb:MSt→MH→R MV} {k1 k2:Nat} (ha:PE X a (lE ct Ra E ea)) (hb:PE X b (lE ct Ra E eb)) :
    PE X (.Dict [some a,some b] [.Constant (.bool true) k1 p,.Constant (.bool true) k2 p2] pos) (lE ct Ra E fun σ h=>(ea σ (h++[.dic []])).bind fun x h1=>(eb σ h1).bind fun y h2=>dset2 h.length x y h2):=by
  refine PE.imp (ybC (YaP ha ya1 (YaP hb ya1 YbI)) rfl rfl (by simp) (by simp)) fun σ H Q q d hd=>?_
  obtain ⟨μ,h,σs,rel,rst,ra,pp⟩:=q
  have ex0:=Ext.cell rel hd (.dic []) (.dK [])
  have rel0:Rel ct (μ++[d]) (h++[.dic []]) (upd H d (.dK [])):=rel.cell hd yd
  refine lE.mk rel0 (rst.ext ex0) ra (Po.start ex0 pp) fun m w μ1 h1 H1 ex1 rel1 rst1 rv1 p1=>?_
  refine lE.mk rel1 rst1 ra p1 fun m2 w2 μ2 h2 H2 ex2 rel2 rst2 rv2 p2=>?_
  obtain ⟨i,e1,p3⟩:=Po.opt p2
  obtain ⟨j,e2,p4⟩:=Po.opt p3
  obtain ⟨ks,e3,p5⟩:=Po.opt p4
  split at p5
  next hk =>
    subst hk
    obtain ⟨i',ei,hc⟩:=ZP e3
    cases ei
    have:=yg e1; subst this
    have:=yg e2; subst this
    have hm:μ2[h.length]?=some d:=by
      obtain ⟨ν,e⟩:=ex1.pre
      obtain ⟨ν',e'⟩:=ex2.pre
      rw [e',e,← rel.len]; simp
    have hH:H2 d=some (.dK []):=rel2.cells _ _ _ hm hc
    refine ⟨hH,[((Sum.inl i:Key),V.bl true),((Sum.inl j:Key),V.bl true)],?_,by simp,?_⟩
    · rw [qj (rv1.ext ex2),qj rv2]; rfl
    · have ex3:=Ext.set (H:=H2) rel2 hm hc (fun z=>nomatch z) (.dic (zu (zu [] i) j)) (.dK (dKs (zu (zu [] i) j)))
      have e4:qZ [] [((Sum.inl i:Key),V.bl true),((Sum.inl j:Key),V.bl true)]=dKs (zu (zu [] i) j):=by
        rw [← zag,← zag]; rfl
      rw [e4]
      exact p5 μ2 _ ex3 (rel2.set hm hc (fun z=>nomatch z) yd) (.ref d) (by simp only [RV]; exact ⟨d,hm,rfl⟩)
  next=>exact p5.elim
theorem zb8 {p3 p4:Pos} (c:Cc X Pm ct n Ra E N sc) (hg:gl sc "sorted"=true) (hgl:gl sc "list"=true) (ha:PE X a (lE ct Ra E ea)) (hp:ya a=true) :
    PE X (.Call (.Name "sorted" p) [.Call (.Name "list" p2) [a] [] p3] [] pos) (lE ct Ra E fun σ h=>(ea σ h).bind fun x h1=>srtK x h1):=by
  obtain ⟨g1,g2,g3⟩:=zH c.sc hg
  obtain ⟨k1,k2,k3⟩:=zH c.sc hgl
  have hm:X.mg "sorted"=none:=c.txt.blts "sorted" (by simp)
  have hm':X.mg "list"=none:=c.txt.blts "list" (by simp [tyNames,isTys])
  refine PE.imp (zai YaG g1 hm (by decide +kernel) (zX (Yaq (qa0 c.calm) k1 hm' (by decide +kernel) (zX ha QaE (yh hp)) k3 k2 (yh hp) (by rfl)) QaE (by rfl)) g3 g2 (by rfl) (by rfl)) fun σ H Q q=>?_
  obtain ⟨μ,h,σs,rel,rst,ra,pp⟩:=q
  refine lE.mk rel rst ra pp fun m w μ1 h1 H1 ex rel1 rst1 rv p1=>?_
  obtain ⟨ks,e,p2⟩:=Po.opt p1
  split at p2
  next hk =>
    obtain ⟨i,rfl,hc⟩:=ZP e
    simp only [RV] at rv
    obtain ⟨b,eb,rfl⟩:=rv
    have hH:H1 b=some (.dK (dKs ks)):=rel1.cells _ _ _ eb hc
    refine ⟨b,dKs ks,rfl,hH,fun l hl=>?_⟩
    refine ⟨l,ks,rfl,SqL.of (by rw [yd,List.map_map]; rfl),hk,fun ns' pm pw l' hl'=>?_⟩
    have:=Qbm pm pw
    subst this
    have ex2:=Ext.new rel1 hl (.lst ((dKs ks).map fun kv=>L2.kV kv.1))
    have rel2:=rel1.new hl (.lst ((dKs ks).map fun kv=>L2.kV kv.1))
    exact YA (fz:=false) rel2 (YL _) (Po.start ex2 p2) l' hl'
  next=>exact p2.elim
theorem zY {h:MH} {i:Nat} {ks:List ((Int×Int)×Int)} (e:ql h (.ref i)=some ks):h[i]?=some (.tab ks):=by
  simp only [ql] at e
  split at e
  next ks' w=>cases e; exact w
  next=>cases e
noncomputable abbrev kP (k:Int×Int):List Key:=[Sum.inl k.1,Sum.inl k.2]
noncomputable abbrev YN (kvs:List ((Int×Int)×Int)):List (List Key×V):=kvs.map fun kv=>(kP kv.1,V.int kv.2)
theorem kP_inj {k l:Int×Int}:kP k=kP l↔k=l:=by
  constructor
  · intro h
    simp only [kP,List.cons.injEq,Sum.inl.injEq,and_true] at h
    exact Prod.ext h.1 h.2
  · rintro rfl; rfl
theorem Ybv (k l:Int×Int):decide (kP k=kP l)=decide (k=l):=by
  by_cases h:k=l
  · subst h; simp
  · have h':¬ kP k=kP l:=fun z=>h (kP_inj.mp z)
    rw [decide_eq_false h,decide_eq_false h']
theorem qaG (kvs:List ((Int×Int)×Int)) (k:Int×Int):zaa (YN kvs) (kP k)=(zK kvs k).map V.int:=by
  unfold zaa zK
  induction kvs with
  | nil=>rfl
  | cons a r ih =>
    rw [YN,List.map_cons,List.find?_cons,List.find?_cons]
    show Option.map _ (match decide (kP a.1=kP k) with | true=>_ | false=>_)=_
    rw [Ybv]
    by_cases h:a.1=k
    · rw [decide_eq_true h]; rfl
    · rw [decide_eq_false h]; exact ih
theorem ybt (kvs:List ((Int×Int)×Int)) (k:Int×Int) (v:Int):QC (YN kvs) (kP k) (V.int v)=YN (Yx kvs k v):=by
  unfold QC Yx
  have e:((YN kvs).any fun kv=>decide (kv.1=kP k))=kvs.any fun p=>decide (p.1=k):=by
    rw [YN,List.any_map]
    congr 1
    funext p
    exact Ybv p.1 k
  rw [e]
  split
  · rw [YN,YN,List.map_map,List.map_map]
    congr 1
    funext p
    show (if kP p.1=kP k then (kP p.1,V.int v) else (kP p.1,V.int p.2))=(kP (if p.1=k then (p.1,v) else p).1,V.int (if p.1=k then (p.1,v) else p).2)
    by_cases h:p.1=k
    · rw [if_pos h,if_pos (kP_inj.mpr h)]
    · rw [if_neg h,if_neg fun z=>h (kP_inj.mp z)]
  · rw [YN,YN,List.map_append]; rfl
theorem yaC {μ:List Addr} {L:Addr→Prop} {H:Hp} {y:MV} {v:V} {k:Int×Int} (r:RV ct μ L H y v) (e:Zs y=some k):∃ p,v=.ref p∧¬ L p∧H p=some (.tup ((kP k).map L2.kV)):=by
  unfold Zs at e
  split at e
  next a b w =>
    cases e
    cases y with
    | f x =>
      cases x with
      | tup xs =>
        simp only [Yk,Option.some.injEq] at w
        rcases xs with _ | ⟨x,_ | ⟨y,_ | ⟨z,zs⟩⟩⟩ <;> simp at w
        obtain ⟨rfl,rfl⟩:=w
        simp only [RV,RF,RFs] at r
        obtain ⟨p,vs,rfl,n,hp,v1,r1,rfl,rfl,v2,r2,rfl,rfl,rfl⟩:=r
        exact ⟨p,rfl,n,hp⟩
      | _=>simp [Yk] at w
    | tup xs =>
      simp only [Yk,Option.some.injEq] at w
      subst w
      simp only [RV,RVs,RF] at r
      obtain ⟨p,vs,rfl,n,hp,v1,r1,rfl,rfl,v2,r2,rfl,rfl,rfl⟩:=r
      exact ⟨p,rfl,n,hp⟩
    | ref _=>simp [Yk] at w
    | exc _=>simp [Yk] at w
  next=>cases e
theorem Zb5:PE X (.Dict [] [] pos) (lE ct Ra E fun _ h=>.ok (.ref h.length) (h++[.tab []])):=by
  refine PE.imp Ybp fun σ H Q q d hd=>?_
  obtain ⟨μ,h,σs,rel,rst,ra,pp⟩:=q
  have ex0:=Ext.cell rel hd (.tab []) (.dT [])
  have rel0:Rel ct (μ++[d]) (h++[.tab []]) (upd H d (.dT [])):=rel.cell hd yd
  exact (Po.start ex0 pp).now rel0 _ (by simp only [RV]; exact ⟨d,by rw [← rel.len]; simp,rfl⟩)
theorem zaS {μ:List Addr} {h:MH} {H:Hp} {x:MV} {v:V} {kvs:List ((Int×Int)×Int)} (rel:Rel ct μ h H) (r:RV ct μ (Liv μ h) H x v) (e:ql h x=some kvs):∃ a,v=.ref a∧Rd H a (.dT (YN kvs)):=by
  cases x with
  | ref i =>
    simp only [RV] at r
    obtain ⟨b,eb,rfl⟩:=r
    exact ⟨b,rfl,.inl (rel.cells _ _ _ eb (zY e))⟩
  | f y =>
    cases y with
    | tab ks =>
      cases e
      simp only [RV,RF] at r
      obtain ⟨a,o,rfl,_,ha⟩:=r
      exact ⟨a,rfl,.inr ⟨o,ha⟩⟩
    | _=>cases e
  | tup _=>cases e
  | exc _=>cases e
theorem qaX {k:Expr} (h:ya k=true):NoSl k:=fun ov iv=>by
  cases k <;> first | rfl | (simp [ya] at h)
theorem zb5 {k:Expr} {ek:MSt→MH→R MV} (hu:X.A.units + 65 < cLine) (ha:PE X a (lE ct Ra E ea)) (hk:PE X k (lE ct Ra E ek)) (hs:NoSl k) :
    PE X (.Subscript a k pos) (lE ct Ra E fun σ h=>(ea σ h).bind fun x h1=>(ek σ h1).bind fun y h2=>opt (ql h2 x) fun kvs=>opt (Zs y) fun k=>opt (zK kvs k) fun v=>.ok (.f (.int v)) h2):=by
  refine PE.imp (YbN (by omega) ha hk hs) fun σ H Q q=>?_
  obtain ⟨μ,h,σs,rel,rst,ra,pp⟩:=q
  refine lE.mk rel rst ra pp fun m w μ1 h1 H1 ex1 rel1 rst1 rv1 p1=>?_
  refine lE.mk rel1 rst1 ra p1 fun m2 w2 μ2 h2 H2 ex2 rel2 rst2 rv2 p2=>?_
  obtain ⟨kvs,e1,p3⟩:=Po.opt p2
  obtain ⟨k',e2,p4⟩:=Po.opt p3
  obtain ⟨v,e3,p5⟩:=Po.opt p4
  obtain ⟨b,rfl,rd⟩:=zaS rel2 (rv1.ext ex2) e1
  obtain ⟨p,rfl,_,hp⟩:=yaC rv2 e2
  refine ⟨b,.int v,rfl,.inr ⟨_,kP k',p,rd,rfl,hp,?_⟩,p5.now rel2 _ (Qo _)⟩
  rw [qaG,e3]; rfl
theorem Yb1 (ha:PE X a (lE ct Ra E ea)):PE X a (lE ct Ra E fun σ h=>(ea σ h).bind fun x h1=>Ybk x h1):=by
  refine PE.imp (ybD ha) fun σ H Q q=>?_
  obtain ⟨μ,h,σs,rel,rst,ra,pp⟩:=q
  refine lE.mk rel rst ra pp fun m w μ1 h1 H1 ex1 rel1 rst1 rv1 p1=>?_
  cases m with
  | ref i =>
    obtain ⟨kvs,e1,p2⟩:=Po.opt p1
    simp only [RV] at rv1
    obtain ⟨b,eb,rfl⟩:=rv1
    have hc:=zY e1
    have hH:H1 b=some (.dT (YN kvs)):=rel1.cells _ _ _ eb hc
    refine ⟨b,_,rfl,hH,fun o=>?_⟩
    have ex4:=Ext.set (H:=H1) rel1 eb hc (fun z=>nomatch z) .dead (.frz o (.dT (YN kvs)))
    have rel4:=rel1.set (c':=.dead) (o:=.frz o (.dT (YN kvs))) eb hc (fun z=>nomatch z) trivial
    refine p2.now' ex4 rel4 _ ?_
    simp only [RV,RF]
    refine ⟨b,o,rfl,fun ⟨j,c,e2,e3,nd⟩=>?_,yd⟩
    have hj:j=i:=by
      have:=(List.getElem?_inj (List.getElem?_eq_some_iff.mp e2).1 rel1.nd).mp (e2.trans eb.symm)
      exact this
    subst hj
    rw [List.getElem?_set_self (List.getElem?_eq_some_iff.mp hc).1] at e3
    cases e3
    exact nd rfl
  | f _=>exact p1.elim
  | tup _=>exact p1.elim
  | exc _=>exact p1.elim
theorem zb1 {k f:Expr} {ek ed:MSt→MH→R MV} {ap cp:Pos} (hu:X.A.units + 65 < cLine) (ha:PE X a (lE ct Ra E ea)) (hk:PE X k (lE ct Ra E ek)) (hd:PE X f (lE ct Ra E ed)) (hn:yn a=true) (hpl:∀ e∈[k,f],ya e=true) (hline:(ap.endLine == cp.line)=true) :
    PE X (.Call (.Attribute a "get" ap) [k,f] [] cp) (lE ct Ra E fun σ h=>(ea σ h).bind fun x h1=>opt (ql h1 x) fun _=>(ek σ h1).bind fun y h2=>(ed σ h2).bind fun z h3=>zaq x y z h3):=by
  refine PE.imp (Ybn (by omega) ha hk hd ⟨YR hn,Yar hpl (by simp),hline,by rw [Qm hpl]; rfl⟩) fun σ H Q q=>?_
  obtain ⟨μ,h,σs,rel,rst,ra,pp⟩:=q
  refine lE.mk rel rst ra pp fun m w μ1 h1 H1 ex1 rel1 rst1 rv1 p1=>?_
  obtain ⟨kvs0,e0,p2⟩:=Po.opt p1
  obtain ⟨b,rfl,rd0⟩:=zaS rel1 rv1 e0
  refine ⟨b,rfl,.inr ⟨_,rd0⟩,?_⟩
  refine lE.mk rel1 rst1 ra p2 fun m2 w2 μ2 h2 H2 ex2 rel2 rst2 rv2 p3=>?_
  refine lE.mk rel2 rst2 ra p3 fun m3 w3 μ3 h3 H3 ex3 rel3 rst3 rv3 p4=>?_
  obtain ⟨kvs,e1,p5⟩:=Po.opt p4
  obtain ⟨k',e2,p6⟩:=Po.opt p5
  obtain ⟨b',eb',rd⟩:=zaS rel3 ((rv1.ext ex2).ext ex3) e1
  cases eb'
  obtain ⟨p,rfl,_,hp⟩:=yaC (rv2.ext ex3) e2
  refine ⟨_,.inr ⟨_,kP k',p,rd,rfl,hp,rfl⟩,?_⟩
  have ev:=qaG kvs k'
  cases eg:zK kvs k' with
  | none =>
    rw [eg] at ev p6
    rw [ev]
    exact p6.now rel3 _ rv3
  | some v =>
    rw [eg] at ev p6
    rw [ev]
    exact p6.now rel3 _ (Qo _)
theorem zbJ (fz:Bool) {cn:String} (c:Cc X Pm ct n Ra E N sc) (hk:Pm.mk0 cn=true) (hi:Pm.meths cn "__init__"=none) (hg:gl sc (Str.ofString cn)=true) :
    PE X (.Call (.Name (Str.ofString cn) p) [] [] pos) (lE ct Ra E fun σ h=>(R.ok [] h).bind fun xs h1=>Z5 Pm (run Pm n) fz cn xs h1):=by
  obtain ⟨g1,g2,g3⟩:=zH c.sc hg
  obtain ⟨M,mg⟩:=c.txt.mk0 cn hk
  refine PE.imp (Qa6 M g1 mg g2) fun σ H Q q=>?_
  obtain ⟨μ,h,σs,rel1,rst,ra,p1⟩:=q
  intro x dx hx hdx hne
  have hx':upd H dx (.own x) x=none:=by rw [Zb (Ne.symm hne)]; exact hx
  have ex1:=Ext.new rel1 hdx (.own x)
  have rel2:=rel1.new hdx (.own x)
  have ex2:=Ext.cell rel2 hx' (.obj cn []) (.ins (ct cn) dx [])
  have rel3:Rel ct (μ++[x]) (h++[.obj cn []]) (upd (upd H dx (.own x)) x (.ins (ct cn) dx [])):=rel2.cell hx' ⟨dx,[],yd,rfl,RVs.nil⟩
  have ext:=ex1.trans ex2
  have hx2:(μ++[x])[h.length]?=some x:=by rw [← rel1.len]; simp
  have p2:Po ct E (Z5 Pm (run Pm n) fz cn [] h) μ h H (fun m μ' h' H'=>∀ v,RV ct μ' (Liv μ' h') H' m v→Q v H'):=p1
  unfold Z5 at p2
  rw [hi] at p2
  simp only [R.bind_ok,Qa8,Bool.true_eq_false,if_false] at p2
  cases fz with
  | false=>exact p2 _ _ ext rel3 _ (by simp only [RV]; exact ⟨x,hx2,rfl⟩)
  | true =>
    dsimp only at p2
    split at p2
    next c' fs ec =>
      obtain ⟨ys,ey,p4⟩:=Po.opt p2
      split at p4
      next t =>
        obtain ⟨b,dx',gs,eb,hb,q1,q2⟩:=rel3.obj ec
        rw [hx2] at eb; cases eb
        have nx:x∉μ:=rel1.fresh hx
        refine p4 μ _ (Ext.cut rel1.len ext) (rel1.cut t rel3) (.ref x) ?_
        simp only [RV,RF]
        refine ⟨x,dx',gs,rfl,fun l=>?_,hb,?_,?_⟩
        · obtain ⟨i,_,e1,_,_⟩:=l
          exact nx (List.mem_of_getElem? e1)
        · rw [q1,List.map_map]; rfl
        · exact RFs.to ⟨fun _ _ e _=>e,fun b _ _ nl l=>nl (Liv.cut rel1.len l)⟩ (RVs.toF ey q2)
      next=>exact p4.elim
    next=>exact p2.elim
theorem Yb6 {g:String} {i:Int} (c:Cc X Pm ct n Ra E N sc) (hv:Pm.globs g=some (.int i)) (hg:gl sc (Str.ofString g)=true):PE X (.Name (Str.ofString g) pos) (lE ct Ra E fun σ h=>opt (Pm.globs g) fun v=>.ok (.f v) h):=by
  obtain ⟨g1,g2,g3⟩:=zH c.sc hg
  obtain ⟨t,mg⟩:=c.txt.globs g i hv
  refine PE.imp (Ya2 (v:=.int i) g1 mg ⟨t,rfl⟩ g2) fun σ H Q q=>?_
  obtain ⟨μ,h,σs,rel,rst,ra,p⟩:=q
  simp only [hv,Zf] at p
  exact p.now rel _ (Qo _)
theorem Po.calm {α:Type} {r:R α} {μ:List Addr} {h:MH} {H:Hp} {k:α→List Addr→MH→Hp→Prop} (p:Po ct E (MP.calm r) μ h H k):Po ct E0 r μ h H k:=by
  cases r with
  | ok x h'=>exact p
  | exc c h'=>exact p.elim
  | stuck=>exact p.elim
theorem PIf.imp {ifs:List Expr} {t t':TT} (p:PIf X ifs t) (k:∀ σ H Q,t' σ H Q→t σ H Q):PIf X ifs t':=fun pins s σ H Q I h=>p pins s σ H Q I (k σ H Q h)
theorem Zba {μ:List Addr} {h:MH} {H:Hp} {σ:L2.St} {σs:MSt} (ncv:Nat) (js:List Nat) (r:RelSt ct μ h H σ σs):RelSt ct μ h H (stC ncv js σ) (stM ncv js σs):=by
  refine ⟨by simp [L3.stC,MP.stM],fun i m e=>?_⟩
  unfold MP.stM at e
  by_cases hi:i < ncv
  · rw [List.getElem?_append_left (by simpa using hi),List.getElem?_replicate,if_pos hi] at e
    cases e
  · rw [List.getElem?_append_right (by simpa using hi),List.length_replicate,List.getElem?_map] at e
    cases ej:js[i - ncv]? with
    | none=>rw [ej] at e; cases e
    | some j =>
      rw [ej] at e
      simp only [Option.map_some,Option.some.injEq] at e
      have e':σs[j]?=some (some m):=by
        cases q:σs[j]? with
        | none=>rw [q] at e; cases e
        | some z=>rw [q] at e; exact congrArg some e
      obtain ⟨v,ev,rv⟩:=r.at_ j m e'
      refine ⟨v,?_,rv⟩
      unfold L3.stC
      rw [List.getElem?_append_right (by simpa using hi),List.length_replicate,List.getElem?_map,ej]
      simp [ev]
theorem zas (fz:Bool) {ncv:Nat} {js:List Nat} {it:String} {t:Tg} {es:MSt→MH→R (List MV)} {tc:MSt→MH→R Bool} {te:MSt→MH→R MV} (σ:L2.St) (H:Hp) (Q:VK)
    (q:lE ct Ra E (fun σ h=>(es σ h).bind fun xs h1=>opt (itV it xs h1) fun p=>(Qn p.2 (qq t tc te) p.1 [] (MP.stM ncv js σ) h1).bind fun acc h3=>Zq fz acc h3) σ H Q) :
    qbr (lI ct Ra E es it) ncv js (lG ct t) (lT ct (fun _=>True) E0 tc) (lE ct (fun _=>True) E0 te) σ H Q:=by
  obtain ⟨μ,h,σs,rel,rst,ra,p⟩:=q
  refine ⟨μ,h,σs,rel,rst,ra,(Po.bind p).imp fun xs μ1 h1 H1 ⟨ex1,rel1,p1⟩=>?_⟩
  obtain ⟨⟨items,g⟩,e1,p2⟩:=Po.opt p1
  refine ⟨items,g,e1,rel1,fun J wk=>?_⟩
  dsimp only at p2
  refine ⟨fun i m acc σ' H'=>∃ μ' h' σs' macc,m=items.length - i∧i≤items.length∧Ext μ1 h1 H1 μ' h' H'∧Rel ct μ' h' H'∧RelSt ct μ' h' H' σ' σs'∧RVs ct μ' (Liv μ' h') H' macc acc ∧
    Po ct E ((Qn g (qq t tc te) (items.drop i) macc σs' h').bind fun acc h3=>Zq fz acc h3) μ' h' H' (kV ct Q),?_,?_⟩
  · exact ⟨items.length,μ1,h1,stM ncv js σs,[],by simp,Nat.zero_le _,Ext.refl _ _ _,rel1,Zba ncv js (rst.ext ex1),RVs.nil,by simpa using p2⟩
  · rintro i m acc σ' H' ⟨μ',h',σs',macc,rfl,hi',ex,rel',rst',racc,p3⟩
    by_cases lt:i < items.length
    · right
      have ed:items.drop i=items[i]::items.drop (i + 1):=List.drop_eq_getElem_cons lt
      rw [ed] at p3
      simp only [Qn] at p3
      split at p3
      next gd =>
        obtain ⟨w1,_⟩:=wk i μ' h' H' ex rel' gd.1
        obtain ⟨go,yl⟩:=w1 lt
        refine ⟨go,fun x H2 y=>?_⟩
        obtain ⟨mx,em,ex2,rel2,rx⟩:=yl x H2 y
        have emx:mx=items[i]:=by simpa [lt] using em.symm
        subst emx
        have p4:=Po.start ex2 p3
        unfold qq at p4
        cases eb:YC t items[i] σs' with
        | none=>rw [eb] at p4; exact p4.elim
        | some σ2s =>
          rw [eb] at p4
          simp only [Zf] at p4
          refine ⟨μ',h',σs',items[i],σ2s,rel2,rst'.ext ex2,rx,eb,fun σ2 rst2=>?_⟩
          have p5:Po ct E ((MP.calm (tc σ2s h')).bind fun k h2=>(if k=true then (MP.calm (te σ2s h2)).bind fun y h3=>R.ok (some y,σ2s) h3 else R.ok (none,σ2s) h2).bind fun p h1=>(Qn g (qq t tc te) (items.drop (i + 1)) (match p.1 with | some y=>macc++[y] | none=>macc) p.2 h1).bind fun acc h3=>Zq fz acc h3) μ' h' H2 (kV ct Q):=by
            cases er:MP.calm (tc σ2s h') with
            | stuck=>rw [er] at p4; exact p4
            | exc c h''=>rw [er] at p4; exact p4
            | ok k h'' =>
              rw [er] at p4
              simp only [R.bind_ok] at p4 ⊢
              cases k with
              | false=>exact p4
              | true =>
                simp only [if_true] at p4 ⊢
                cases er2:MP.calm (te σ2s h'') with
                | stuck=>rw [er2] at p4; exact p4
                | exc c h3=>rw [er2] at p4; exact p4
                | ok y h3=>rw [er2] at p4; exact p4
          refine ⟨μ',h',σ2s,rel2,rst2,trivial,Po.calm ((Po.bind p5).imp fun k μ3 h3 H3 ⟨ex3,rel3,p6⟩=>?_)⟩
          cases k with
          | false =>
            simp only [Bool.false_eq_true,if_false,R.bind_ok] at p6 ⊢
            exact ⟨items.length - (i + 1),by omega,μ3,h3,σ2s,macc,rfl,lt,(ex.trans ex2).trans ex3,rel3,rst2.ext ex3,(racc.ext ex2).ext ex3,p6⟩
          | true =>
            simp only [if_true] at p6 ⊢
            have p7:Po ct E ((MP.calm (te σ2s h3)).bind fun y h4=>(Qn g (qq t tc te) (items.drop (i + 1)) (macc++[y]) σ2s h4).bind fun acc h5=>Zq fz acc h5) μ3 h3 H3 (kV ct Q):=by
              cases er2:MP.calm (te σ2s h3) with
              | stuck=>rw [er2] at p6; exact p6
              | exc c h4=>rw [er2] at p6; exact p6
              | ok y h4=>rw [er2] at p6; exact p6
            refine ⟨μ3,h3,σ2s,rel3,rst2.ext ex3,trivial,Po.calm ((Po.bind p7).imp fun y μ4 h4 H4 ⟨ex4,rel4,p8⟩ w rw_=>?_)⟩
            refine ⟨by rw [racc.length]; exact Nat.lt_of_lt_of_le gd.2 qC,items.length - (i + 1),by omega,μ4,h4,σ2s,macc++[y],rfl,lt,((ex.trans ex2).trans ex3).trans ex4,rel4,(rst2.ext ex3).ext ex4,?_,p8⟩
            exact (((racc.ext ex2).ext ex3).ext ex4).append (RVs.cons rw_ RVs.nil)
      next=>exact p3.elim
    · left
      have hi2:i=items.length:=by omega
      subst hi2
      rw [List.drop_length] at p3
      simp only [Qn] at p3
      split at p3
      next gd =>
        obtain ⟨_,w2⟩:=wk items.length μ' h' H' ex rel' gd
        exact ⟨w2 rfl,fun D hD=>YA rel' racc p3 D hD⟩
      next=>exact p3.elim
theorem YbR (fz:Bool) {elt iter tg:Expr} {ifs:List Expr} {cs:Scope} {N':List Str} {ncv:Nat} {js:List Nat} {it:String} {t:Tg} {es:MSt→MH→R (List MV)} {tc:MSt→MH→R Bool} {te:MSt→MH→R MV} (hok:qw X.env.scope X.N cs N' ncv js=true) (hc:X.calm=true)
    (hi:PI X tg iter (lI ct Ra E es it)) (hg:∀ C s3 H ex,PG (cxC X cs N' C s3 H ex) tg (lG ct t)) (hif:∀ C s3 H ex,PIf (cxC X cs N' C s3 H ex) ifs (lT ct (fun _=>True) E0 tc)) (helt:∀ C s3 H ex,PE (cxC X cs N' C s3 H ex) elt (lE ct (fun _=>True) E0 te)) (hpl:ya iter=true) :
    PE X (.ListComp elt [⟨tg,iter,ifs,0⟩] cs pos) (lE ct Ra E fun σ h=>(es σ h).bind fun xs h1=>opt (itV it xs h1) fun p=>(Qn p.2 (qq t tc te) p.1 [] (stM ncv js σ) h1).bind fun acc h3=>Zq fz acc h3):=by
  exact PE.imp (zbF N' ncv js hok hc hi hg hif helt (yF hpl)) (zas fz)
end
end
section
variable {ct:Tx} {Pm:Prog} {n:Nat}
section
variable {X:Cx} {E:XK} {Ra:L2.St→Prop} {N:List Str} {sc:Scope}
theorem Qc {e:Expr} {ev ev':MSt→MH→R MV} (p:PE X e (lE ct Ra E ev)) (h:∀ σ hh,ev' σ hh=ev σ hh):PE X e (lE ct Ra E ev'):=by
  have:ev'=ev:=funext fun σ=>funext fun hh=>h σ hh
  rw [this]; exact p
theorem zt {e:Expr} {ev ev':MSt→MH→R MV} (p:PE X e (lE ct Ra E ev)∧PT X e (lT ct Ra E (tst ev))) (h:∀ σ hh,ev' σ hh=ev σ hh):PE X e (lE ct Ra E ev')∧PT X e (lT ct Ra E (tst ev')):=by
  have:ev'=ev:=funext fun σ=>funext fun hh=>h σ hh
  rw [this]; exact p
theorem Cc.comp {cs:Scope} {N':List Str} (c:Cc X Pm ct n Ra E N sc) (nd:N'.Nodup) (C:Addr) (s3:Shared) (H:Hp) (ex:List Addr):Cc (cxC X cs N' C s3 H ex) Pm ct n (fun _=>True) E0 N' (zB cs sc) :=
  ⟨c.txt,c.calm,c.room,fun σ _ pins H s e s' I ⟨_,_,_,_,_,_,_,_,_,_,_,_,_,_,_,q⟩=>q.elim,rfl,by rw [← c.sc]; rfl,nd,c.hK⟩
noncomputable def Sd (X:Cx) (ct:Tx) (Pm:Prog) (n:Nat) (Ra:L2.St→Prop) (E:XK) (me:ME) (e:Expr):Prop :=
  PE X e (lE ct Ra E (Za Pm (run Pm n) me))∧(okT me=true→PT X e (lT ct Ra E (tst (Za Pm (run Pm n) me))))
theorem Sd.of {me:ME} {e:Expr} (h:PE X e (lE ct Ra E (Za Pm (run Pm n) me))∧PT X e (lT ct Ra E (tst (Za Pm (run Pm n) me)))):Sd X ct Pm n Ra E me e:=⟨h.1,fun _=>h.2⟩
theorem zby {ms:List ME} {es:List Expr} (b:Bo ct X Ra E Pm n ms es) (hl:es.length < 1000):∀ σ h xs h',Qf Pm (run Pm n) ms σ h=.ok xs h'→xs.length≤sizeLine:=fun σ h xs h' e=>by
  rw [qF e,b.length]
  exact Nat.le_trans (Nat.le_of_lt hl) (by decide)
end
end
end SD
end
section
set_option maxHeartbeats 4000000
namespace SD
open PySem PySem.Spec PyProof.Rows L2 L3 M3 MP
variable {ct:Tx} {Pm:Prog} {n:Nat}
theorem Qbq {X:Cx} {E:XK} {Ra:L2.St→Prop} {N:List Str} {sc:Scope} {it:String} {t iter:Expr} {ms:List ME} (c:Cc X Pm ct n Ra E N sc) (k1:Zag t it iter=true) (k2:gl sc (Str.ofString it)=true) (b:Bo ct X Ra E Pm n ms (zx iter)) :
    PI X t iter (lI ct Ra E (Qf Pm (run Pm n) ms) it):=by
  obtain ⟨g1,g2,g3⟩:=zH c.sc k2
  unfold Zag at k1
  split at k1
  next x p as p2 =>
    simp only [Bool.and_eq_true,Bool.or_eq_true,beq_iff_eq] at k1
    obtain ⟨k1,rfl⟩:=k1
    have b':Bo ct X Ra E Pm n ms as:=b
    rcases k1 with (⟨rfl,ha⟩ | ⟨⟨rfl,ht⟩,ha⟩) | ⟨⟨rfl,ht⟩,ha⟩
    · have hl:=b'.length
      have hm:X.mg "range"=none:=c.txt.blts "range" (by simp)
      exact Qbt g1 hm b'.pa b'.plain ha fun σ h xs h' e=>by rw [qF e,hl]
    · cases t with
      | Tuple es k pt =>
        have hm:X.mg "zip"=none:=c.txt.blts "zip" (by simp)
        rcases as with _ | ⟨u,_ | ⟨v,_ | ⟨w,as⟩⟩⟩
        · simp at ha
        · simp at ha
        · exact Yb4 c.hK g1 hm b'.pa b'.plain fun σ h xs h' e=>by rw [qF e,b'.length]; rfl
        · simp at ha
      | _=>exact Bool.noConfusion ht
    · exact Bool.noConfusion ht
  next=>exact Bool.noConfusion k1
theorem zaO {e:Expr} (h:YaM e=true):∃ k p,e=.Constant (.bool true) k p:=by
  cases e with
  | Constant c k p =>
    cases c with
    | bool b=>cases b with
      | true=>exact ⟨k,p,rfl⟩
      | false=>exact ff h
    | _=>exact ff h
  | _=>exact ff h
theorem qa5 {α:Type} {l:List α} {p:α×α} (h:zbw l=some p):l=[p.1,p.2]:=by
  rcases l with _ | ⟨a,_ | ⟨b,_ | ⟨c,l⟩⟩⟩
  · exact nomatch h
  · exact nomatch h
  · cases h; rfl
  · exact nomatch h
theorem zbA {α:Type} {l:List α} {p:α} (h:oneL l=some p):l=[p]:=by
  rcases l with _ | ⟨a,_ | ⟨b,l⟩⟩
  · exact nomatch h
  · cases h; rfl
  · exact nomatch h
theorem Qa9 {e x y:Expr} (h:zaX e=some (x,y)):∃ k1 p1 k2 p2 p,e=.Dict [some x,some y] [.Constant (.bool true) k1 p1,.Constant (.bool true) k2 p2] p:=by
  cases e with
  | Dict ks vs p =>
    have h:((zbw ks).bind fun k=>(zbw vs).bind fun v=>if YaM v.1&&YaM v.2 then k.1.bind fun x=>k.2.map fun y=>(x,y) else none)=some (x,y):=h
    obtain ⟨⟨a,b⟩,e1,h⟩:=Option.bind_eq_some_iff.mp h
    obtain ⟨⟨u,v⟩,e2,h⟩:=Option.bind_eq_some_iff.mp h
    split at h
    next hb =>
      simp only [Bool.and_eq_true] at hb
      obtain ⟨k1,p1,e3⟩:=zaO hb.1
      obtain ⟨k2,p2,e4⟩:=zaO hb.2
      dsimp only at e3 e4 h
      obtain ⟨x',rfl,h⟩:=Option.bind_eq_some_iff.mp h
      obtain ⟨y',rfl,h⟩:=Option.map_eq_some_iff.mp h
      cases h
      subst e3; subst e4
      exact ⟨k1,p1,k2,p2,p,by rw [qa5 e1,qa5 e2]⟩
    next=>cases h
  | _=>exact nomatch h
theorem qa2 {e v:Expr} {x:Str} (h:asC1 e=some (x,v)):∃ p q,e=.Call (.Name x p) [v] [] q:=by
  cases e with
  | Call g as ks q =>
    cases g with
    | Name z p =>
      cases ks with
      | nil =>
        have h:((oneL as).map fun a=>(z,a))=some (x,v):=h
        obtain ⟨a,e1,h⟩:=Option.map_eq_some_iff.mp h
        cases h
        exact ⟨p,q,by rw [zbA e1]⟩
      | cons _ _=>exact nomatch h
    | _=>exact nomatch h
  | _=>exact nomatch h
theorem zaY {e v:Expr} {x y:Str} (h:yaF e=some (x,y,v)):∃ p1 p2 p3 p,e=.Call (.Name x p1) [.Call (.Name y p2) [v] [] p3] [] p:=by
  obtain ⟨⟨x',v'⟩,e1,h⟩:=Option.bind_eq_some_iff.mp h
  obtain ⟨⟨y',w⟩,e2,h⟩:=Option.map_eq_some_iff.mp h
  cases h
  obtain ⟨p1,p,rfl⟩:=qa2 e1
  obtain ⟨p2,p3,rfl⟩:=qa2 e2
  exact ⟨p1,p2,p3,p,rfl⟩
mutual
theorem sB:∀ (me:ME) {X:Cx} {E:XK} {Ra:L2.St→Prop} {N:List Str} {sc:Scope} (c:Cc X Pm ct n Ra E N sc) (e:Expr),Qe Pm me N sc e=true→Sd X ct Pm n Ra E me e
  | .var i,X,E,Ra,N,sc,c,e,h=>by
    have h:=Qb h
    cases e with
    | Name x p =>
      have h:(N[i]? == some x&&visB sc x)=true:=h
      simp only [Bool.and_eq_true,beq_iff_eq] at h
      exact Sd.of (Ze (Qc (e_var (by rw [c.nm]; exact h.1) (by rw [c.sc]; exact h.2)) fun σ hh=>by simp only [Za]))
    | _=>exact ff h
  | .cI i,X,E,Ra,N,sc,c,e,h=>by
    have h:=Qb h
    cases e with
    | Constant k j p =>
      cases k with
      | int z =>
        have hz:i=z:=by simpa using (show (i == z)=true from h)
        subst hz
        exact Sd.of (Ze (Qc (zab yb8 fun _ _ _=>Qo _) fun σ hh=>by simp only [Za]))
      | _=>exact ff h
    | _=>exact ff h
  | .cB i,X,E,Ra,N,sc,c,e,h=>by
    have h:=Qb h
    cases e with
    | Constant k j p =>
      cases k with
      | bool z =>
        have hz:i=z:=by simpa using (show (i == z)=true from h)
        subst hz
        exact Sd.of (Ze (Qc (zab ya1 fun _ _ _=>zF _) fun σ hh=>by simp only [Za]))
      | _=>exact ff h
    | _=>exact ff h
  | .cN,X,E,Ra,N,sc,c,e,h=>by
    have h:=Qb h
    cases e with
    | Constant k j p =>
      cases k with
      | none =>
        exact Sd.of (Ze (Qc (zab yb3 fun _ _ _=>QaD) fun σ hh=>by simp only [Za]))
      | _=>exact ff h
    | _=>exact ff h
  | .cS i,X,E,Ra,N,sc,c,e,h=>by
    have h:=Qb h
    cases e with
    | Constant k j p =>
      cases k with
      | str z =>
        have hz:i=z:=by simpa using (show (i == z)=true from h)
        subst hz
        exact Sd.of (Ze (Qc (zab zb3 fun _ _ _=>QbT _) fun σ hh=>by simp only [Za]))
      | _=>exact ff h
    | _=>exact ff h
  | .glob g,X,E,Ra,N,sc,c,e,h=>by
    have h:=Qb h
    cases e with
    | Name x p =>
      have h:(x == Str.ofString g&&gl sc x&&zaV (Pm.globs g))=true:=h
      simp only [Bool.and_eq_true,beq_iff_eq] at h
      obtain ⟨⟨rfl,h1⟩,h2⟩:=h
      have hv:∃ i,Pm.globs g=some (.int i):=by
        unfold zaV at h2
        split at h2
        · exact ⟨_,by assumption⟩
        · cases h2
      obtain ⟨i,hv⟩:=hv
      exact Sd.of (Ze (Qc (Yb6 c hv h1) fun σ hh=>by simp only [Za]))
    | _=>exact ff h
  | .bin fz op a b,X,E,Ra,N,sc,c,e,h=>by
    have h:=Qb h
    cases e with
    | BinOp l o r p =>
      have h:(o == mOp op&&Qe Pm a N sc l&&Qe Pm b N sc r)=true:=h
      simp only [Bool.and_eq_true,beq_iff_eq] at h
      obtain ⟨⟨rfl,h1⟩,h2⟩:=h
      exact Sd.of (Ze (Qc (e_bin fz op (sB a c l h1).1 (sB b c r h2).1) fun σ hh=>by simp only [Za]))
    | _=>exact ff h
  | .neg a,X,E,Ra,N,sc,c,e,h=>by
    have h:=Qb h
    cases e with
    | UnaryOp o x p =>
      cases o with
      | USub=>exact Sd.of (Ze (Qc (e_neg (sB a c x (show Qe Pm a N sc x=true from h)).1) fun σ hh=>by simp only [Za]))
      | _=>exact ff h
    | _=>exact ff h
  | .cmp op a b,X,E,Ra,N,sc,c,e,h=>by
    have h:=Qb h
    cases e with
    | Compare l os rs p =>
      rcases os with _ | ⟨o,_ | ⟨o2,os⟩⟩
      · exact ff h
      · rcases rs with _ | ⟨r,_ | ⟨r2,rs⟩⟩
        · exact ff h
        · have h:(o == YY op&&Qe Pm a N sc l&&Qe Pm b N sc r)=true:=h
          simp only [Bool.and_eq_true,beq_iff_eq] at h
          obtain ⟨⟨rfl,h1⟩,h2⟩:=h
          exact Sd.of (zt (e_cmp c.hK op c.units (sB a c l h1).1 (sB b c r h2).1 (zl h2)) fun σ hh=>by simp only [Za])
        · exact ff h
      · exact ff h
    | _=>exact ff h
  | .chain op op2 a b d,X,E,Ra,N,sc,c,e,h=>by
    have h:=Qb h
    cases e with
    | Compare l os rs p =>
      rcases os with _ | ⟨o,_ | ⟨o2,_ | ⟨o3,os⟩⟩⟩
      · exact ff h
      · exact ff h
      · rcases rs with _ | ⟨m,_ | ⟨r,_ | ⟨r2,rs⟩⟩⟩
        · exact ff h
        · exact ff h
        · have h:(o == YY op&&o2 == YY op2&&Qe Pm a N sc l&&Qe Pm b N sc m&&Qe Pm d N sc r)=true:=h
          simp only [Bool.and_eq_true,beq_iff_eq] at h
          obtain ⟨⟨⟨⟨rfl,rfl⟩,h1⟩,h2⟩,h3⟩:=h
          exact Sd.of (zt (ybG c.hK op op2 c.units (sB a c l h1).1 (sB b c m h2).1 (sB d c r h3).1 (zl h3)) fun σ hh=>by simp only [Za])
        · exact ff h
      · exact ff h
    | _=>exact ff h
  | .isN a,X,E,Ra,N,sc,c,e,h=>ff (Qb h)
  | .notN a,X,E,Ra,N,sc,c,e,h=>by
    have h:=Qb h
    cases e with
    | Compare l os rs p =>
      rcases os with _ | ⟨o,_ | ⟨o2,os⟩⟩
      · exact ff h
      · cases o with
        | IsNot =>
         rcases rs with _ | ⟨r,_ | ⟨r2,rs⟩⟩
         · exact ff h
         · cases r with
           | Constant k j p2 =>
             cases k with
             | none =>
              have h:Qe Pm a N sc l=true:=h
              exact Sd.of (zt (yb4 (sB a c l h).1) fun σ hh=>by simp only [Za])
             | _=>exact ff h
           | _=>exact ff h
         · cases r with
           | Constant k j p2=>cases k <;> exact ff h
           | _=>exact ff h
        | _=>exact ff h
      · cases o <;> exact ff h
    | _=>exact ff h
  | .and es,X,E,Ra,N,sc,c,e,h=>by
    have h:=Qb h
    cases e with
    | BoolOp o vs p =>
      cases o with
      | And =>
        have h:(es.all okT&&Zj Pm es N sc vs)=true:=h
        rw [Bool.and_eq_true] at h
        obtain ⟨i1,i2⟩:=QbO (pos:=p) (sBs es c vs h.2) h.1
        exact Sd.of (zt ⟨i1,i2.pt⟩ fun σ hh=>by simp only [Za])
      | _=>exact ff h
    | _=>exact ff h
  | .or es,X,E,Ra,N,sc,c,e,h=>by
    have h:=Qb h
    cases e with
    | BoolOp o vs p =>
      cases o with
      | Or =>
        have h:(es.all okT&&Zj Pm es N sc vs)=true:=h
        rw [Bool.and_eq_true] at h
        obtain ⟨i1,i2⟩:=e_or (pos:=p) (sBs es c vs h.2) h.1
        exact Sd.of (zt ⟨i1,i2.pt⟩ fun σ hh=>by simp only [Za])
      | _=>exact ff h
    | _=>exact ff h
  | .not a,X,E,Ra,N,sc,c,e,h=>by
    have h:=Qb h
    cases e with
    | UnaryOp o x p =>
      cases o with
      | Not =>
        have h:(okT a&&Qe Pm a N sc x)=true:=h
        rw [Bool.and_eq_true] at h
        obtain ⟨i1,i2⟩:=sB a c x h.2
        exact Sd.of (zt (e_not i1 (i2 h.1)) fun σ hh=>by simp only [Za])
      | _=>exact ff h
    | _=>exact ff h
  | .ite d a b,X,E,Ra,N,sc,c,e,h=>by
    have h:=Qb h
    cases e with
    | IfExp t x y p =>
      have h:(okT d&&Qe Pm d N sc t&&Qe Pm a N sc x&&Qe Pm b N sc y)=true:=h
      simp only [Bool.and_eq_true] at h
      obtain ⟨⟨⟨h0,h1⟩,h2⟩,h3⟩:=h
      exact ⟨Qc (e_ite ((sB d c t h1).2 h0) (sB a c x h2).1 (sB b c y h3).1) fun σ hh=>by simp only [Za],fun z=>Bool.noConfusion z⟩
    | _=>exact ff h
  | .tup es,X,E,Ra,N,sc,c,e,h=>by
    have h:=Qb h
    cases e with
    | Tuple vs k p =>
      have h:(decide (vs.length < 1000)&&Zj Pm es N sc vs)=true:=h
      rw [Bool.and_eq_true] at h
      have b:=sBs es c vs h.2
      exact Sd.of (Ze (Qc (e_tup b.pa (zby b (of_decide_eq_true h.1))) fun σ hh=>by simp only [Za]))
    | _=>exact ff h
  | .lst fz es,X,E,Ra,N,sc,c,e,h=>by
    have h:=Qb h
    cases e with
    | List vs p =>
      have h:(decide (vs.length < 1000)&&Zj Pm es N sc vs)=true:=h
      rw [Bool.and_eq_true] at h
      have b:=sBs es c vs h.2
      exact Sd.of (Ze (Qc (e_lst fz b.pa (zby b (of_decide_eq_true h.1))) fun σ hh=>by simp only [Za]))
    | _=>exact ff h
  | .sub a i,X,E,Ra,N,sc,c,e,h=>by
    have h:=Qb h
    cases e with
    | Subscript x y p =>
      have h:(Qe Pm a N sc x&&Qe Pm i N sc y)=true:=h
      rw [Bool.and_eq_true] at h
      exact Sd.of (Ze (Qc (e_sub c.hK (sB a c x h.1).1 (sB i c y h.2).1 (zl h.2)) fun σ hh=>by simp only [Za]))
    | _=>exact ff h
  | .slice fz a lo hi,X,E,Ra,N,sc,c,e,h=>by
    have h:=Qb h
    cases e with
    | Subscript x y p =>
      cases y with
      | Slice l u st p2 =>
        cases st with
        | none =>
          have h:(Qe Pm a N sc x&&ybo Pm lo N sc l&&ybo Pm hi N sc u)=true:=h
          simp only [Bool.and_eq_true] at h
          obtain ⟨⟨h1,h2⟩,h3⟩:=h
          exact Sd.of (Ze (Qc (ybz c.hK fz (sB a c x h1).1 (sBo lo c l h2) (sBo hi c u h3)) fun σ hh=>by simp only [Za]))
        | some _=>exact ff h
      | _=>exact ff h
    | _=>exact ff h
  | .fld a f,X,E,Ra,N,sc,c,e,h=>by
    have h:=Qb h
    cases e with
    | Attribute x m p =>
      have h:(m == Str.ofString f&&yn x&&Qe Pm a N sc x)=true:=h
      simp only [Bool.and_eq_true,beq_iff_eq] at h
      obtain ⟨⟨rfl,h1⟩,h2⟩:=h
      exact Sd.of (Ze (Qc (e_fld c.txt (sB a c x h2).1 h1) fun σ hh=>by simp only [Za]))
    | _=>exact ff h
  | .call f es,X,E,Ra,N,sc,c,e,h=>by
    have h:=Qb h
    cases e with
    | Call g as ks p =>
      cases g with
      | Name x p2 =>
        cases as with
        | nil=>exact ff h
        | cons v vs =>
          cases ks with
          | cons _ _=>exact ff h
          | nil =>
            have h:(x == Str.ofString f&&gl sc x&&!(f.toList.contains '.')&&(Pm.defs f).isSome&&Zj Pm es N sc (v::vs))=true:=h
            simp only [Bool.and_eq_true,beq_iff_eq,Bool.not_eq_true'] at h
            obtain ⟨⟨⟨⟨rfl,h1⟩,h2⟩,h3⟩,h4⟩:=h
            obtain ⟨d,hd⟩:=Option.isSome_iff_exists.mp h3
            have b:=sBs es c (v::vs) h4
            exact Sd.of (Ze (Qc (ZbX c hd h2 h1 b.pa b.plain) fun σ hh=>by simp only [Za]))
      | _=>exact ff h
    | _=>exact ff h
  | .make fz cn es,X,E,Ra,N,sc,c,e,h=>by
    have h:=Qb h
    cases e with
    | Call g as ks p =>
      cases g with
      | Name x p2 =>
        cases as with
        | nil =>
          cases ks with
          | cons _ _=>cases es <;> exact ff h
          | nil =>
            cases es with
            | cons _ _=>exact ff h
            | nil =>
              have h:(x == Str.ofString cn&&gl sc x&&Pm.mk0 cn&&(Pm.meths cn "__init__").isNone)=true:=h
              simp only [Bool.and_eq_true,beq_iff_eq,Option.isNone_iff_eq_none] at h
              obtain ⟨⟨⟨rfl,h1⟩,h3⟩,h4⟩:=h
              exact Sd.of (Ze (Qc (zbJ fz c h3 h4 h1) fun σ hh=>by simp only [Za,Qf]))
        | cons v vs =>
          cases ks with
          | cons _ _=>exact ff h
          | nil =>
            have h:(x == Str.ofString cn&&gl sc x&&(Pm.meths cn "__init__").isSome&&Zj Pm es N sc (v::vs))=true:=h
            simp only [Bool.and_eq_true,beq_iff_eq] at h
            obtain ⟨⟨⟨rfl,h1⟩,h3⟩,h4⟩:=h
            obtain ⟨d,hd⟩:=Option.isSome_iff_exists.mp h3
            have b:=sBs es c (v::vs) h4
            exact Sd.of (Ze (Qc (zcb fz c hd h1 b.pa b.plain) fun σ hh=>by simp only [Za]))
      | _=>exact ff h
    | _=>exact ff h
  | .meth o m es,X,E,Ra,N,sc,c,e,h=>ff (Qb h)
  | .blt fz id es,X,E,Ra,N,sc,c,e,h=>by
    have h:=Qb h
    cases e with
    | Call g as ks p =>
      cases g with
      | Name x p2 =>
        cases as with
        | nil=>exact ff h
        | cons v vs =>
          cases ks with
          | cons _ _=>exact ff h
          | nil =>
            have h:(x == Str.ofString id&&gl sc x&&(fnNames.contains id || tyNames.contains id)&&Zj Pm es N sc (v::vs))=true:=h
            simp only [Bool.and_eq_true,beq_iff_eq,Bool.or_eq_true] at h
            obtain ⟨⟨⟨rfl,h1⟩,h2⟩,h4⟩:=h
            have b:=sBs es c (v::vs) h4
            exact Sd.of (Ze (Qc (e_blt fz c (by simpa using h2) h1 b.pa b.plain) fun σ hh=>by simp only [Za]))
      | _=>exact ff h
    | _=>exact ff h
  | .isI a t,X,E,Ra,N,sc,c,e,h=>by
    have h:=Qb h
    cases e with
    | Call g as ks p =>
      cases g with
      | Name x p2 =>
        rcases as with _ | ⟨v,_ | ⟨y,_ | ⟨z,as⟩⟩⟩
        · exact ff h
        · exact ff h
        · cases y with
          | Name y p3 =>
            cases ks with
            | nil =>
              have h:(x == ("isinstance":Str)&&gl sc x&&y == Str.ofString t&&gl sc y&&(isTys.contains t || (Pm.subs t t).isSome)&&Qe Pm a N sc v)=true:=h
              simp only [Bool.and_eq_true,beq_iff_eq,Bool.or_eq_true] at h
              obtain ⟨⟨⟨⟨⟨rfl,h1⟩,rfl⟩,h2⟩,h3⟩,h4⟩:=h
              exact Sd.of (Ze (Qc (e_isI c h3 h1 h2 (sB a c v h4).1 (zl h4)) fun σ hh=>by simp only [Za]))
            | cons _ _=>exact ff h
          | _=>exact ff h
        · cases y <;> exact ff h
      | _=>exact ff h
    | _=>exact ff h
  | .isX a t,X,E,Ra,N,sc,c,e,h=>ff (Qb h)
  | .callD f es ds,X,E,Ra,N,sc,c,e,h=>ff (Qb h)
  | .dset2 a b,X,E,Ra,N,sc,c,e,h=>by
    replace h:=Qb h
    replace h:(match zaX e with | some (x,y)=>Qe Pm a N sc x&&Qe Pm b N sc y | none=>false)=true:=h
    split at h
    next x y w =>
      obtain ⟨k1,p1,k2,p2,p,rfl⟩:=Qa9 w
      simp only [Bool.and_eq_true] at h
      exact Sd.of (Ze (Qc (ZbI (sB a c x h.1).1 (sB b c y h.2).1) fun σ hh=>by simp only [Za]))
    next=>exact ff h
  | .revL fz a,X,E,Ra,N,sc,c,e,h=>ff (Qb h)
  | .srtK a,X,E,Ra,N,sc,c,e,h=>by
    replace h:=Qb h
    replace h:(match yaF e with | some (x,y,v)=>x == ("sorted":Str)&&gl sc x&&y == ("list":Str)&&gl sc y&&Qe Pm a N sc v | none=>false)=true:=h
    split at h
    next x y v w =>
      obtain ⟨p1,p2,p3,p,rfl⟩:=zaY w
      simp only [Bool.and_eq_true,beq_iff_eq] at h
      obtain ⟨⟨⟨⟨rfl,h1⟩,rfl⟩,h2⟩,h3⟩:=h
      exact Sd.of (Ze (Qc (zb8 (p4:=p) c h1 h2 (sB a c v h3).1 (zl h3)) fun σ hh=>by simp only [Za]))
    next=>exact ff h
  | .dNew,X,E,Ra,N,sc,c,e,h=>by
    replace h:=Qb h
    cases e with
    | Dict ks vs p =>
      cases ks with
      | nil =>
        cases vs with
        | nil=>exact Sd.of (Ze (Qc Zb5 fun σ hh=>by simp only [Za]))
        | cons _ _=>exact ff h
      | cons _ _=>exact ff h
    | _=>exact ff h
  | .dGet a k d,X,E,Ra,N,sc,c,e,h=>by
    replace h:=Qb h
    cases e with
    | Call f as ks p =>
      cases f with
      | Attribute x n ap =>
        rcases as with _ | ⟨vk,_ | ⟨vd,_ | ⟨_,_⟩⟩⟩
        · exact ff h
        · exact ff h
        · cases ks with
          | nil =>
            replace h:(n == ("get":Str)&&yn x&&(ap.endLine == p.line)&&Qe Pm a N sc x&&Qe Pm k N sc vk&&Qe Pm d N sc vd)=true:=h
            simp only [Bool.and_eq_true,beq_iff_eq] at h
            obtain ⟨⟨⟨⟨⟨rfl,h1⟩,h2⟩,h3⟩,h4⟩,h5⟩:=h
            exact Sd.of (Ze (Qc (zb1 c.units (sB a c x h3).1 (sB k c vk h4).1 (sB d c vd h5).1 h1 (fun e he=>by
              rcases List.mem_cons.mp he with rfl | he
              · exact zl h4
              · rw [List.mem_singleton.mp he]; exact zl h5) (by simpa using h2)) fun σ hh=>by simp only [Za]))
          | cons _ _=>exact ff h
        · exact ff h
      | _=>exact ff h
    | _=>exact ff h
  | .dSub a k,X,E,Ra,N,sc,c,e,h=>by
    replace h:=Qb h
    cases e with
    | Subscript x y p =>
      replace h:(Qe Pm a N sc x&&Qe Pm k N sc y)=true:=h
      simp only [Bool.and_eq_true] at h
      exact Sd.of (Ze (Qc (zb5 c.units (sB a c x h.1).1 (sB k c y h.2).1 (fun ov iv=>qaX (zl h.2) ov iv)) fun σ hh=>by simp only [Za]))
    | _=>exact ff h
  | .frzT a,X,E,Ra,N,sc,c,e,h=>by
    replace h:=Qb h
    replace h:Qe Pm a N sc e=true:=h
    exact ⟨Qc (Yb1 (sB a c e h).1) fun σ hh=>by simp only [Za],fun z=>Bool.noConfusion z⟩
  | .nearK a b,X,E,Ra,N,sc,c,e,h=>by
    replace h:=Qb h
    cases e <;> exact ff h
  | .lm m o es,X,E,Ra,N,sc,c,e,h=>by
    have h:=Qb h
    cases e with
    | Call g as ks p =>
      cases g with
      | Attribute x nm ap =>
       cases ks with
       | cons _ _=>exact ff h
       | nil =>
        have h:(nm == Str.ofString m&&yn x&&(ap.endLine == p.line)&&Qe Pm o N sc x&&Zj Pm es N sc as&&(if as.isEmpty then lm0Names.contains m else lmNames.contains m&&decide (as.length < 30)))=true:=h
        simp only [Bool.and_eq_true,beq_iff_eq] at h
        obtain ⟨⟨⟨⟨⟨rfl,h1⟩,h2⟩,h3⟩,h4⟩,h5⟩:=h
        have b:=sBs es c as h4
        have ho:=(sB o c x h3).1
        have hl:(ap.endLine == p.line)=true:=by simpa using h2
        cases as with
        | nil =>
          cases es with
          | cons _ _=>exact b.elim
          | nil =>
            have h5':m∈lm0Names:=by simpa using h5
            simp only [lm0Names,List.mem_cons,List.not_mem_nil,or_false] at h5'
        | cons v vs =>
          have h5':m∈lmNames∧(v::vs).length < 30:=by simpa using h5
          obtain ⟨h6,h7⟩:=h5'
          simp only [lmNames,List.mem_cons,List.not_mem_nil,or_false] at h6
          rcases h6 with rfl | rfl
          · exact Sd.of (Ze (Qc (qbP PySem.F.slot_list_append PySem.F.type_list_append Zbd ho h1 b.pa b.plain h7 hl) fun σ hh=>by simp only [Za]))
          · exact Sd.of (Ze (Qc (qbP PySem.F.slot_list_extend PySem.F.type_list_extend Qbc ho h1 b.pa b.plain h7 hl) fun σ hh=>by simp only [Za]))
      | _=>exact ff h
    | _=>exact ff h
  | .comp fz elt tg it src cond ncv js,X,E,Ra,N,sc,c,e,h=>by
    have h:=Qb h
    cases e with
    | ListComp x gs cs p =>
      rcases gs with _ | ⟨⟨t,iter,ifs,a⟩,_ | ⟨g2,gs⟩⟩
      · exact ff h
      · have h:((a == 0)&&ya iter&&qw sc N cs (tgN tg t++js.filterMap fun j=>N[j]?) ncv js&&decide (tgN tg t++js.filterMap fun j=>N[j]?).Nodup&&Qw (ownC cs) (tgN tg t++js.filterMap fun j=>N[j]?) (zB cs sc) tg t&&Qe Pm elt (tgN tg t++js.filterMap fun j=>N[j]?) (zB cs sc) x&&chkC Pm cond (tgN tg t++js.filterMap fun j=>N[j]?) (zB cs sc) ifs&&(if it == "seq" then YaD Pm src N sc iter else Zag t it iter&&gl sc (Str.ofString it)&&Zj Pm src N sc (zx iter)))=true:=h
        simp only [Bool.and_eq_true,beq_iff_eq,decide_eq_true_eq] at h
        obtain ⟨⟨⟨⟨⟨⟨⟨ha,h1⟩,h2⟩,h3⟩,h4⟩,h5⟩,h6⟩,h7⟩:=h
        subst ha
        have hi:PI X t iter (lI ct Ra E (Qf Pm (run Pm n) src) it):=by
          split at h7
          next hs =>
            subst hs
            exact sBi src c t iter h7
          next hs =>
            simp only [Bool.and_eq_true] at h7
            obtain ⟨⟨k1,k2⟩,k3⟩:=h7
            exact Qbq c k1 k2 (sBs src c (zx iter) k3)
        exact Sd.of (Ze (Qc (YbR fz (by rw [c.sc,c.nm]; exact h2) c.calm hi (fun C s3 H ex=>sG rfl (c.comp h3 C s3 H ex).sc h3 c.calm (fun _ z=>z) tg t h4) (fun C s3 H ex=>sBc cond (c.comp h3 C s3 H ex) ifs h6) (fun C s3 H ex=>(sB elt (c.comp h3 C s3 H ex) x h5).1) h1) fun σ hh=>by simp only [Za]))
      · exact ff h
    | _=>exact ff h
  | .frz m,X,E,Ra,N,sc,c,e,h=>by
    have h:=Qb h
    have h':Qe Pm m N sc e=true:=h
    exact ⟨Qc (e_frz (sB m c e h').1) fun σ hh=>by simp only [Za],fun z=>Bool.noConfusion z⟩
theorem sBs:∀ (mes:List ME) {X:Cx} {E:XK} {Ra:L2.St→Prop} {N:List Str} {sc:Scope} (c:Cc X Pm ct n Ra E N sc) (es:List Expr),Zj Pm mes N sc es=true→Bo ct X Ra E Pm n mes es
  | [],X,E,Ra,N,sc,c,es,h=>by
    cases es with
    | nil=>trivial
    | cons e es=>exact ff h
  | m::ms,X,E,Ra,N,sc,c,es,h=>by
    cases es with
    | nil=>exact ff h
    | cons e es =>
      have h:=qaV h
      exact ⟨⟨zl h.1,sB m c e h.1⟩,sBs ms c es h.2⟩
theorem sBi:∀ (mes:List ME) {X:Cx} {E:XK} {Ra:L2.St→Prop} {N:List Str} {sc:Scope} (c:Cc X Pm ct n Ra E N sc) (t e:Expr),YaD Pm mes N sc e=true→PI X t e (lI ct Ra E (Qf Pm (run Pm n) mes) "seq")
  | [],X,E,Ra,N,sc,c,t,e,h=>ff h
  | [m],X,E,Ra,N,sc,c,t,e,h=>by
    have h:Qe Pm m N sc e=true:=h
    have:=Yb5 c.hK (tg:=t) (sB m c e h).1
    have e2:Qf Pm (run Pm n) [m]=fun σ hh=>(Za Pm (run Pm n) m σ hh).bind fun x h1=>.ok [x] h1:=by
      funext σ hh
      simp only [Qf] <;> rfl
    rw [e2]; exact this
  | _::_::_,X,E,Ra,N,sc,c,t,e,h=>ff h
theorem sBk:∀ (mes:List ME) {X:Cx} {E:XK} {Ra:L2.St→Prop} {N:List Str} {sc:Scope} (c:Cc X Pm ct n Ra E N sc) (t e:Expr),YaD Pm mes N sc e=true→PI X t e (lI ct Ra E (Qf Pm (run Pm n) mes) "keys")
  | [],X,E,Ra,N,sc,c,t,e,h=>ff h
  | [m],X,E,Ra,N,sc,c,t,e,h=>by
    have h:Qe Pm m N sc e=true:=h
    have:=qbA (tg:=t) (sB m c e h).1
    have e2:Qf Pm (run Pm n) [m]=fun σ hh=>(Za Pm (run Pm n) m σ hh).bind fun x h1=>.ok [x] h1:=by
      funext σ hh
      simp only [Qf] <;> rfl
    rw [e2]; exact this
  | _::_::_,X,E,Ra,N,sc,c,t,e,h=>ff h
theorem sBo:∀ (mo:Option ME) {X:Cx} {E:XK} {Ra:L2.St→Prop} {N:List Str} {sc:Scope} (c:Cc X Pm ct n Ra E N sc) (eo:Option Expr),ybo Pm mo N sc eo=true→PO X eo (lO ct Ra E (QaO Pm (run Pm n) mo))
  | none,X,E,Ra,N,sc,c,eo,h=>by
    cases eo with
    | none =>
      refine PO.imp ZbE fun σ H Q q=>?_
      obtain ⟨μ,hh,σs,rel,rst,ra,p⟩:=q
      simp only [QaO] at p
      exact p.now rel
    | some e=>exact ff h
  | some m,X,E,Ra,N,sc,c,eo,h=>by
    cases eo with
    | none=>exact ff h
    | some e =>
      have h:Qe Pm m N sc e=true:=h
      refine PO.imp (zbz (sB m c e h).1) fun σ H Q q=>?_
      obtain ⟨μ,hh,σs,rel,rst,ra,p⟩:=q
      simp only [QaO] at p
      refine lE.mk rel rst ra p fun x v μ1 h1 H1 ex rel1 rst1 rv p1=>?_
      obtain ⟨i,e,p2⟩:=Po.opt p1
      have:=yg e; subst this
      exact ⟨i,qj rv,p2.now rel1⟩
theorem sBc:∀ (mo:Option ME) {X:Cx} {E:XK} {Ra:L2.St→Prop} {N:List Str} {sc:Scope} (c:Cc X Pm ct n Ra E N sc) (es:List Expr),chkC Pm mo N sc es=true→PIf X es (lT ct Ra E (Zau Pm (run Pm n) mo))
  | none,X,E,Ra,N,sc,c,es,h=>by
    cases es with
    | nil =>
      refine PIf.imp ybJ fun σ H Q q=>?_
      obtain ⟨μ,hh,σs,rel,rst,ra,p⟩:=q
      simp only [Zau] at p
      exact p.now rel
    | cons e es=>exact ff h
  | some m,X,E,Ra,N,sc,c,es,h=>by
    rcases es with _ | ⟨e,_ | ⟨e2,es⟩⟩
    · exact ff h
    · have h:(okT m&&Qe Pm m N sc e)=true:=h
      rw [Bool.and_eq_true] at h
      have e2:Zau Pm (run Pm n) (some m)=tst (Za Pm (run Pm n) m):=by
        funext σ hh
        simp only [Zau,tst]
      rw [e2]
      exact Zbz ((sB m c e h.2).2 h.1)
    · exact ff h
end
end SD
end
section
set_option maxHeartbeats 4000000
namespace SD
open PySem PySem.Spec PyProof.Rows L2 L3 M3 MP
noncomputable def PoS (ct:Tx) (E:XK) (r:RS) (μ:List Addr) (h:MH) (H:Hp) (D:Ends):Prop:=match r with
  | .next σ' h'=>∀ μ' H' σ,Ext μ h H μ' h' H'→Rel ct μ' h' H'→RelSt ct μ' h' H' σ σ'→D.nx σ H'
  | .ret m h'=>∀ μ' H' v,Ext μ h H μ' h' H'→Rel ct μ' h' H'→RV ct μ' (Liv μ' h') H' m v→D.rt v H'
  | .brk σ' h'=>∀ μ' H' σ,Ext μ h H μ' h' H'→Rel ct μ' h' H'→RelSt ct μ' h' H' σ σ'→D.bk σ H'
  | .cnt σ' h'=>∀ μ' H' σ,Ext μ h H μ' h' H'→Rel ct μ' h' H'→RelSt ct μ' h' H' σ σ'→D.ct σ H'
  | .exc c h'=>∀ μ' H',Ext μ h H μ' h' H'→Rel ct μ' h' H'→E (.ref (ct c)) none H'
  | .stuck=>False
noncomputable def lS (ct:Tx) (Ra:L2.St→Prop) (E:XK) (ex:MSt→MH→RS):TS:=fun D σ H=>∃ μ h σs,Rel ct μ h H∧RelSt ct μ h H σ σs∧Ra σ∧PoS ct E (ex σs h) μ h H D
section
variable {ct:Tx} {Pm:Prog} {n:Nat} {X:Cx} {E:XK} {Ra:L2.St→Prop} {N:List Str} {sc:Scope}
section
variable {μ μ1:List Addr} {h h1:MH} {H H1:Hp} {D:Ends} {α:Type}
theorem PoS.start {r:RS} (e:Ext μ h H μ1 h1 H1) (p:PoS ct E r μ h H D):PoS ct E r μ1 h1 H1 D:=by
  cases r with
  | next σ' h'=>exact fun μ' H' σ e' r' q=>p μ' H' σ (e.trans e') r' q
  | ret m h'=>exact fun μ' H' v e' r' q=>p μ' H' v (e.trans e') r' q
  | brk σ' h'=>exact fun μ' H' σ e' r' q=>p μ' H' σ (e.trans e') r' q
  | cnt σ' h'=>exact fun μ' H' σ e' r' q=>p μ' H' σ (e.trans e') r' q
  | exc c h'=>exact fun μ' H' e' r'=>p μ' H' (e.trans e') r'
  | stuck=>exact p
theorem PoS.st {r:R α} {k:α→MH→RS} (p:PoS ct E (r.st k) μ h H D):Po ct E r μ h H fun x μ1 h1 H1=>Ext μ h H μ1 h1 H1∧Rel ct μ1 h1 H1∧PoS ct E (k x h1) μ1 h1 H1 D:=by
  cases r with
  | ok x h'=>exact fun μ' H' e' r'=>⟨e',r',PoS.start (r:=k x h') e' p⟩
  | exc c h'=>exact p
  | stuck=>exact p
theorem PoS.opt {o:Option α} {k:α→RS} (p:PoS ct E (Zo o k) μ h H D):∃ x,o=some x∧PoS ct E (k x) μ h H D:=by
  cases o with
  | none=>exact p.elim
  | some x=>exact ⟨x,rfl,p⟩
end
section
variable {μ:List Addr} {h:MH} {H:Hp} {σ:L2.St} {σs:MSt} {D:Ends}
theorem lE.st {ev:MSt→MH→R MV} {k:MV→MH→RS} {Q:VK} (rel:Rel ct μ h H) (rst:RelSt ct μ h H σ σs) (ra:Ra σ) (p:PoS ct E ((ev σs h).st k) μ h H D)
    (f:∀ m v μ1 h1 H1,Ext μ h H μ1 h1 H1→Rel ct μ1 h1 H1→RelSt ct μ1 h1 H1 σ σs→RV ct μ1 (Liv μ1 h1) H1 m v→PoS ct E (k m h1) μ1 h1 H1 D→Q v H1):lE ct Ra E ev σ H Q :=
  ⟨μ,h,σs,rel,rst,ra,(PoS.st p).imp fun m μ1 h1 H1 ⟨e1,r1,p1⟩ v rv=>f m v μ1 h1 H1 e1 r1 (rst.ext e1) rv p1⟩
end
structure Cs (X:Cx) (Pm:Prog) (ct:Tx) (n:Nat) (E:XK) (N:List Str) (sc:Scope):Prop where
  cc:Cc X Pm ct n (fun _=>True) E N sc
  ex:X.ex=[]
  own:PassesOwn (model X.prog X.w) X.A X.env X.xe
  tk:Qa5 X E
  fn:∀ x,X.fn x=true
  kd:X.env.scope.kind=.function
  stk:X.stack=X.env::X.outer
  fr:X.env.frame=some X.env.locals
section
variable {ea eb ec:MSt→MH→R MV} {a b c:Expr} {pos p2:Pos}
noncomputable def Qae:Expr→Bool
  | .ListComp ..=>true
  | .SetComp ..=>true
  | .DictComp ..=>true
  | _=>false
theorem qaj {e:Expr} {t:Option Expr} {l:Nat} {env:Env} (h:Qae e=false):swapsWith e t l env=pure false:=by
  cases e <;> first | rfl | (simp [Qae] at h)
theorem qbj {e t:Expr} {l:Nat} {env:Env} (h1:∀ x gs cs p,swapsWith (.ListComp x gs cs p) (some t) l env=pure false) (h2:∀ x gs cs p,swapsWith (.SetComp x gs cs p) (some t) l env=pure false) (h3:∀ x y gs cs p,swapsWith (.DictComp x y gs cs p) (some t) l env=pure false):swapsWith e (some t) l env=pure false:=by
  cases hl:Qae e with
  | false=>exact qaj hl
  | true =>
    cases e with
    | ListComp x gs cs p=>exact h1 _ _ _ _
    | SetComp x gs cs p=>exact h2 _ _ _ _
    | DictComp x y gs cs p=>exact h3 _ _ _ _ _
    | _=>exact Bool.noConfusion (show false=true from hl)
theorem sw_lc {x:Expr} {gs:List Comprehension} {cs:Scope} {p:Pos} {t:Expr} {l:Nat} {env:Env} (h:∀ x p,t≠.Name x p):swapsWith (.ListComp x gs cs p) (some t) l env=pure false:=by
  cases t with
  | Name x p=>exact absurd rfl (h x p)
  | _=>rfl
theorem yb6 (ha:PE X a (lE ct Ra E ea)) (hl:Qae a=false):PS X (.Expr a pos) (lS ct Ra E fun σ h=>(ea σ h).st fun _ h1=>.next σ h1):=PS.imp (QbJ ha (qaj hl)) fun D σ H q=>by
  obtain ⟨μ,h,σs,rel,rst,ra,p⟩:=q
  exact lE.st rel rst ra p fun m v μ1 h1 H1 ex rel1 rst1 rv p1=>p1 μ1 H1 σ (Ext.refl _ _ _) rel1 rst1
theorem s_ret (ha:PE X a (lE ct Ra E ea)):PS X (.Return (some a) pos) (lS ct Ra E fun σ h=>(ea σ h).st fun v h1=>.ret v h1):=PS.imp (Zby ha) fun D σ H q=>by
  obtain ⟨μ,h,σs,rel,rst,ra,p⟩:=q
  exact lE.st rel rst ra p fun m v μ1 h1 H1 ex rel1 rst1 rv p1=>p1 μ1 H1 v (Ext.refl _ _ _) rel1 rv
theorem s_if {x y:List Stmt} {ex ey:MSt→MH→RS} (tc:PT X c (lT ct Ra E (tst ec))) (hx:PSs X x (lS ct Ra E ex)) (hy:PSs X y (lS ct Ra E ey)) :
    PS X (.If c x y pos) (lS ct Ra E fun σ h=>(ec σ h).st fun v h1=>Zo (yB v) fun k=>if k=true then ex σ h1 else ey σ h1):=PS.imp (ps_if tc hx hy) fun D σ H q=>by
  obtain ⟨μ,h,σs,rel,rst,ra,p⟩:=q
  have p':PoS ct E ((tst ec σs h).st fun k h1=>if k=true then ex σs h1 else ey σs h1) μ h H D:=by
    dsimp only [tst] at p ⊢
    cases er:ec σs h with
    | stuck=>rw [er] at p; exact p
    | exc c h'=>rw [er] at p; exact p
    | ok x h' =>
      rw [er] at p
      simp only [R.bind_ok,R.st_ok] at p ⊢
      cases eb:yB x with
      | none=>rw [eb] at p; exact p.elim
      | some k=>rw [eb] at p; exact p
  refine ⟨μ,h,σs,rel,rst,ra,(PoS.st p').imp fun k μ1 h1 H1 ⟨ex1,rel1,p1⟩=>?_⟩
  cases k with
  | true=>exact ⟨μ1,h1,σs,rel1,rst.ext ex1,ra,p1⟩
  | false=>exact ⟨μ1,h1,σs,rel1,rst.ext ex1,ra,p1⟩
theorem s_set {tg:Tg} (c:Cs X Pm ct n E N sc) (ht:Qw YaR N sc tg b=true) (ha:PE X a (lE ct (fun _=>True) E ea)) (hs:swapsWith a (some b) pos.line X.env=pure false) (hw:swappedStores [b] a X.env=pure none) :
    PS X (.Assign [b] a pos) (lS ct (fun _=>True) E fun σ h=>(ea σ h).st fun v h1=>Zo (YC tg v σ) fun σ1=>.next σ1 h1):=by
  refine PS.imp (Zbm ha (sG (ct:=ct) c.cc.nm c.cc.sc c.cc.nd c.cc.calm (fun x _=>c.fn x) tg b ht) hs hw (by rw [Q0 ht [] X.env]; rfl)) fun D σ H q=>?_
  obtain ⟨μ,h,σs,rel,rst,ra,p⟩:=q
  refine lE.st rel rst ra p fun m v μ1 h1 H1 ex rel1 rst1 rv p1=>?_
  obtain ⟨σ1,e,p2⟩:=PoS.opt p1
  exact ⟨μ1,h1,σs,m,σ1,rel1,rst1,rv,e,fun σ' rst'=>p2 μ1 H1 σ' (Ext.refl _ _ _) rel1 rst'⟩
theorem qaT {o i : Expr} {env : Env} (hp : ya i = true) : ∀ v, assign (.Subscript o i pos) env v = (do
      let ov←holding [v] (eval o env)
      let iv←holding [v,ov] (eval i env)
      standAt pos
      holding [v,ov,iv] (setItem ov iv v)
      release [v,ov,iv] []):=by
  intro v
  cases i <;> first | rfl | (simp [ya] at hp)
theorem Ybj {o i:Expr} (ha:PE X a (lE ct Ra E ea)) (ho:PE X o (lE ct Ra E eb)) (hi:PE X i (lE ct Ra E ec)) (hp:ya i=true) :
    PS X (.Assign [.Subscript o i p2] a pos) (lS ct Ra E fun σ h=>(ea σ h).st fun v h1=>(eb σ h1).st fun x h2=>(ec σ h2).st fun y h3 =>
      match x with
      | .ref a=>Zo (ze h3 a) fun xs=>Zo (qc y) fun k=>Zo (ixM xs.length k) fun j=>.next σ (qe h3 a (xs.set j v))
      | _=>.stuck):=by
  refine PS.imp (Zbm ha (ybZ ho hi Zbi (qaT hp)) (show swapsWithSole [Expr.Subscript o i p2] a pos.line X.env=pure false from qbj (e:=a) (t:=.Subscript o i p2) (l:=pos.line) (env:=X.env) (fun _ _ _ _=>rfl) (fun _ _ _ _=>rfl) (fun _ _ _ _ _=>rfl)) (by cases a <;> rfl) rfl) fun D σ H q=>?_
  obtain ⟨μ,h,σs,rel,rst,ra,p⟩:=q
  refine lE.st rel rst ra p fun m v μ1 h1 H1 ex1 rel1 rst1 rv p1=>?_
  refine lE.st rel1 rst1 ra p1 fun m2 v2 μ2 h2 H2 ex2 rel2 rst2 rv2 p2=>?_
  refine lE.st rel2 rst2 ra p2 fun m3 v3 μ3 h3 H3 ex3 rel3 rst3 rv3 p3=>?_
  cases m2 with
  | ref i0 =>
    obtain ⟨xs,e1,p4⟩:=PoS.opt p3
    obtain ⟨k,e2,p5⟩:=PoS.opt p4
    obtain ⟨j,e3,p6⟩:=PoS.opt p5
    have:=yg e2; subst this
    obtain ⟨b',vs,eb',hb,rs⟩:=rel3.lst e1
    have rv2':=rv2.ext ex3
    simp only [RV] at rv2'
    obtain ⟨b0,eb0,rfl⟩:=rv2'
    rw [eb'] at eb0; cases eb0
    have e4:=zG e1
    have ex4:=Ext.set (H:=H3) rel3 eb' e4 (fun z=>nomatch z) (.lst (xs.set j m)) (.lst (vs.set j v))
    refine ⟨b',vs,k,j,rfl,qj rv3,hb,by rw [rs.length,← Zbk]; exact e3,?_⟩
    refine p6 μ3 _ σ ex4 (rel3.set eb' e4 (fun z=>nomatch z) ⟨_,yd,?_⟩) (rst3.ext ex4)
    exact RVs.set (((rv.ext ex2).ext ex3).ext ex4) j (rs.ext ex4)
  | f _=>exact p3.elim
  | tup _=>exact p3.elim
  | exc _=>exact p3.elim
theorem qca {o i:Expr} {k1:Nat} {p1:Pos} (hu:X.A.units + 65 < cLine) (ho:PE X o (lE ct Ra E eb)) (hi:PE X i (lE ct Ra E ec)) :
    PS X (.Assign [.Subscript o i p2] (.Constant (.bool true) k1 p1) pos) (lS ct Ra E fun σ h=>(eb σ h).st fun x h1=>(ec σ h1).st fun y h2=>Zo (qc y) fun j=>match x with
      | .ref a=>Zo (Q5 h2 (.ref a)) fun ks=>if ks.length < 1000000 then .next σ (h2.set a (.dic (zu ks j))) else .stuck
      | _=>.stuck):=by
  refine PS.imp (Ya3 (by omega) ho hi ya1 rfl) fun D σ H q=>?_
  obtain ⟨μ,h,σs,rel,rst,ra,p⟩:=q
  refine lE.st rel rst ra p fun m2 v2 μ2 h2 H2 ex2 rel2 rst2 rv2 p2=>?_
  refine lE.st rel2 rst2 ra p2 fun m3 v3 μ3 h3 H3 ex3 rel3 rst3 rv3 p3=>?_
  obtain ⟨k,e2,p4⟩:=PoS.opt p3
  have:=yg e2; subst this
  cases m2 with
  | ref i0 =>
    obtain ⟨ks,e1,p5⟩:=PoS.opt p4
    split at p5
    next hk =>
      obtain ⟨i',ei,hc⟩:=ZP e1
      cases ei
      have rv2':=rv2.ext ex3
      simp only [RV] at rv2'
      obtain ⟨b0,eb0,rfl⟩:=rv2'
      have hH:H3 b0=some (.dK (dKs ks)):=rel3.cells _ _ _ eb0 hc
      have ex4:=Ext.set (H:=H3) rel3 eb0 hc (fun z=>nomatch z) (.dic (zu ks k)) (.dK (dKs (zu ks k)))
      refine ⟨b0,_,rfl,by rw [qj rv3]; exact DPut.k (k:=Sum.inl k) hH (by rw [List.length_map,sizeLine_eq]; omega),?_⟩
      rw [zag]
      exact p5 μ3 _ σ ex4 (rel3.set eb0 hc (fun z=>nomatch z) yd) (rst3.ext ex4)
    next=>exact p5.elim
  | f _=>exact p4.elim
  | tup _=>exact p4.elim
  | exc _=>exact p4.elim
theorem QbW {v o i:Expr} (hu:X.A.units + 65 < cLine) (hv:PE X v (lE ct Ra E ea)) (ho:PE X o (lE ct Ra E eb)) (hi:PE X i (lE ct Ra E ec)) (hs:swapsWith v (some (.Subscript o i p2)) pos.line X.env=pure false) :
    PS X (.Assign [.Subscript o i p2] v pos) (lS ct Ra E fun σ h=>(ea σ h).st fun w h1=>(eb σ h1).st fun x h2=>(ec σ h2).st fun y h3=>Zo (qc w) fun j=>Zo (Zs y) fun k=>match x with
      | .ref a=>Zo (ql h3 (.ref a)) fun kvs=>if kvs.length < 1000000 then .next σ (h3.set a (.tab (Yx kvs k j))) else .stuck
      | _=>.stuck):=by
  refine PS.imp (Ya3 (by omega) ho hi hv hs) fun D σ H q=>?_
  obtain ⟨μ,h,σs,rel,rst,ra,p⟩:=q
  refine lE.st rel rst ra p fun m1 v1 μ1 h1 H1 ex1 rel1 rst1 rv1 p1=>?_
  refine lE.st rel1 rst1 ra p1 fun m2 v2 μ2 h2 H2 ex2 rel2 rst2 rv2 p2=>?_
  refine lE.st rel2 rst2 ra p2 fun m3 v3 μ3 h3 H3 ex3 rel3 rst3 rv3 p3=>?_
  obtain ⟨j,e1,p4⟩:=PoS.opt p3
  have:=yg e1; subst this
  obtain ⟨k,e2,p5⟩:=PoS.opt p4
  obtain ⟨p,rfl,_,hp⟩:=yaC rv3 e2
  cases m2 with
  | ref i0 =>
    obtain ⟨kvs,e3,p6⟩:=PoS.opt p5
    split at p6
    next hk =>
      have hc:=zY e3
      have rv2':=rv2.ext ex3
      simp only [RV] at rv2'
      obtain ⟨b0,eb0,rfl⟩:=rv2'
      have hH:H3 b0=some (.dT (YN kvs)):=rel3.cells _ _ _ eb0 hc
      have ex4:=Ext.set (H:=H3) rel3 eb0 hc (fun z=>nomatch z) (.tab (Yx kvs k j)) (.dT (YN (Yx kvs k j)))
      refine ⟨b0,_,rfl,by rw [qj rv1]; exact DPut.t hH hp (by rw [List.length_map,sizeLine_eq]; omega),?_⟩
      rw [ybt]
      exact p6 μ3 _ σ ex4 (rel3.set eb0 hc (fun z=>nomatch z) yd) (rst3.ext ex4)
    next=>exact p6.elim
  | f _=>exact p5.elim
  | tup _=>exact p5.elim
  | exc _=>exact p5.elim
theorem QaF {f:Str} {v:V}:∀ {fs:List (Str×V)},fs.lookup f=none→YH f v fs=fs++[(f,v)]
  | [],_=>rfl
  | (g,w)::r,h=>by
    rw [List.lookup_cons] at h
    cases hb:f == g with
    | true=>rw [hb] at h; cases h
    | false =>
      rw [hb] at h
      have ne:g≠f:=fun z=>by subst z; simp at hb
      unfold YH
      rw [if_neg ne,QaF h]; rfl
theorem qas {f:String}:∀ {fs:List (String×MV)} {gs:List (Str×V)},gs.map Prod.fst=fs.map (fun p=>Str.ofString p.1)→fs.lookup f=none→gs.lookup (Str.ofString f)=none
  | [],gs,h1,_=>by
    cases gs with
    | nil=>rfl
    | cons p gs=>simp at h1
  | (k,y)::fs,gs,h1,e=>by
    cases gs with
    | nil=>simp at h1
    | cons p gs =>
      obtain ⟨k',u⟩:=p
      simp only [List.map_cons,List.cons.injEq] at h1
      rw [List.lookup_cons] at e
      cases hb:f == k with
      | true=>rw [hb] at e; cases e
      | false =>
        rw [hb] at e
        have ne:(Str.ofString f == k')=false:=by
          rw [h1.1]
          exact beq_false_of_ne fun z=>by have:=YF z; subst this; simp at hb
        rw [List.lookup_cons,ne]
        exact qas h1.2 e
theorem zbs {o:Expr} {f:String} (T:Txt X.prog X.w X.K X.mg X.base Pm ct n) (ha:PE X a (lE ct Ra E ea)) (ho:PE X o (lE ct Ra E eb)) :
    PS X (.Assign [.Attribute o (Str.ofString f) p2] a pos) (lS ct Ra E fun σ h=>(ea σ h).st fun v h1=>(eb σ h1).st fun x h2=>match x with
      | .ref a=>match h2[a]? with
        | some (.obj c fs)=>if Pm.fok c f=true∧fs.length < 100∧fs.lookup f=none then .next σ (h2.set a (.obj c (fs++[(f,v)]))) else .stuck
        | _=>.stuck
      | _=>.stuck):=by
  refine PS.imp (qb3 ho ha (qbj (fun _ _ _ _=>rfl) (fun _ _ _ _=>rfl) (fun _ _ _ _ _=>rfl))) fun D σ H q=>?_
  obtain ⟨μ,h,σs,rel,rst,ra,p⟩:=q
  refine lE.st rel rst ra p fun m v μ1 h1 H1 ex1 rel1 rst1 rv p1=>?_
  refine lE.st rel1 rst1 ra p1 fun m2 v2 μ2 h2 H2 ex2 rel2 rst2 rv2 p2=>?_
  cases m2 with
  | ref i0 =>
    dsimp only at p2
    split at p2
    next c fs ec =>
      split at p2
      next ok =>
        obtain ⟨ok1,ok2,ok3⟩:=ok
        obtain ⟨b,dx,gs,eb,hb,q1,q2⟩:=rel2.obj ec
        simp only [RV] at rv2
        obtain ⟨b0,eb0,rfl⟩:=rv2
        rw [eb] at eb0; cases eb0
        obtain ⟨t1,t2⟩:=T.fok c f ok1
        have hl:gs.length=fs.length:=by have:=congrArg List.length q1; simpa using this
        have ex3:=Ext.set (H:=H2) rel2 eb ec (fun z=>nomatch z) (.obj c (fs++[(f,m)])) (.ins (ct c) dx (gs++[(Str.ofString f,v)]))
        refine ⟨b,ct c,dx,gs,rfl,hb,t1,t2,by omega,?_⟩
        rw [QaF (qas q1 ok3)]
        refine p2 μ2 _ σ ex3 (rel2.set eb ec (fun z=>nomatch z) ⟨dx,_,yd,by simp [q1],?_⟩) (rst2.ext ex3)
        simp only [List.map_append,List.map_cons,List.map_nil]
        exact (q2.ext ex3).append (RVs.cons ((rv.ext ex2).ext ex3) RVs.nil)
      next=>exact p2.elim
    next=>exact p2.elim
  | f _=>exact p2.elim
  | tup _=>exact p2.elim
  | exc _=>exact p2.elim
end
end
end SD
end
section
set_option maxHeartbeats 4000000
namespace SD
open PySem PySem.Spec PyProof.Rows L2 L3 M3 MP
section
variable {ct:Tx} {Pm:Prog} {n:Nat} {X:Cx} {E:XK} {N:List Str} {sc:Scope}
noncomputable abbrev yes:L2.St→Prop:=fun _=>True
section
variable {ea eb ec:MSt→MH→R MV} {a b c:Expr} {pos p2:Pos}
theorem s_seq {st:Stmt} {rest:List Stmt} {ex ey:MSt→MH→RS} (h1:PS X st (lS ct yes E ex)) (h2:PSs X rest (lS ct yes E ey)):PSs X (st::rest) (lS ct yes E fun σ h=>(ex σ h).bind fun σ1 h1=>ey σ1 h1):=PSs.imp (Ybw h1 h2) fun D σ H q=>by
  obtain ⟨μ,h,σs,rel,rst,ra,p⟩:=q
  refine ⟨μ,h,σs,rel,rst,ra,?_⟩
  dsimp only at p
  cases er:ex σs h with
  | next σ' h' =>
    rw [er] at p
    intro μ' H' σv e1 r1 q1
    exact ⟨μ',h',σ',r1,q1,trivial,PoS.start e1 p⟩
  | ret m h'=>rw [er] at p; exact p
  | brk σ' h'=>rw [er] at p; exact p
  | cnt σ' h'=>rw [er] at p; exact p
  | exc c h'=>rw [er] at p; exact p
  | stuck=>rw [er] at p; exact p
theorem s_nil:PSs X [] (lS ct yes E fun σ h=>.next σ h):=PSs.imp qbE fun D σ H q=>by
  obtain ⟨μ,h,σs,rel,rst,ra,p⟩:=q
  exact p μ H σ (Ext.refl _ _ _) rel rst
theorem ZbS:PS X (.Pass pos) (lS ct yes E fun σ h=>.next σ h):=PS.imp QbM fun D σ H q=>by
  obtain ⟨μ,h,σs,rel,rst,ra,p⟩:=q
  exact p μ H σ (Ext.refl _ _ _) rel rst
theorem zbE {cn:String} {v:Expr} {es:List Expr} {ev:MSt→MH→R (List MV)} {np cp:Pos} (c:Cs X Pm ct n E N sc) (hx:Pm.excs cn=true) (hg:gl sc (Str.ofString cn)=true) (ha:PA X (v::es) (lA ct yes E ev)) (hpl:∀ e∈v::es,ya e=true) (hl:∀ σ h xs h',ev σ h=.ok xs h'→xs.length≤sizeLine) :
    PS X (.Raise (some (.Call (.Name (Str.ofString cn) np) (v::es) [] cp)) none pos) (lS ct yes E fun σ h=>(ev σ h).st fun _ h1=>.exc cn h1):=by
  obtain ⟨g1,g2,g3⟩:=zH c.cc.sc hg
  obtain ⟨x1,x2⟩:=c.cc.txt.excs cn hx
  refine PS.imp (Zbp c.cc.calm c.ex c.tk x1 g1 x2 ha g2 (yh (hpl v (by simp))) (Qs fun e he=>hpl e (by simp [he]))) fun D σ H q=>?_
  obtain ⟨μ,h,σs,rel,rst,ra,p⟩:=q
  refine ⟨μ,h,σs,rel,rst,ra,?_⟩
  dsimp only at p
  cases er:ev σs h with
  | stuck=>rw [er] at p; exact p
  | exc c h'=>rw [er] at p; exact p
  | ok xs h' =>
    rw [er] at p
    intro μ1 H1 ex rel1 vs rvs
    exact ⟨by rw [rvs.length]; exact hl _ _ _ _ er,p μ1 H1 ex rel1⟩
theorem s_for {tg:Tg} {t iter:Expr} {body:List Stmt} {it:String} {ev:MSt→MH→R (List MV)} {ex:MSt→MH→RS} (c:Cs X Pm ct n E N sc) (hi:PI X t iter (lI ct yes E ev it)) (ht:Qw YaR N sc tg t=true) (hb:PSs X body (lS ct yes E ex)) (hpl:ya iter=true) :
    PS X (.For t iter body [] pos) (lS ct yes E fun σ h=>(ev σ h).st fun xs h1=>Zo (itV it xs h1) fun p=>Zu p.2 (Zi tg ex) p.1 σ h1):=by
  refine PS.imp (ybS c.own c.cc.calm hi (sG (ct:=ct) c.cc.nm c.cc.sc c.cc.nd c.cc.calm (fun x _=>c.fn x) tg t ht) hb (yF hpl)) fun D σ H q=>?_
  obtain ⟨μ,h,σs,rel,rst,ra,p⟩:=q
  refine ⟨μ,h,σs,rel,rst,ra,(PoS.st p).imp fun xs μ1 h1 H1 ⟨ex1,rel1,p1⟩=>?_⟩
  obtain ⟨⟨items,g⟩,e1,p2⟩:=PoS.opt p1
  refine ⟨items,g,e1,rel1,fun J wk=>?_⟩
  dsimp only at p2
  refine ⟨fun i m σ' H'=>∃ μ' h' σs',m=items.length - i∧i≤items.length∧Ext μ1 h1 H1 μ' h' H'∧Rel ct μ' h' H'∧RelSt ct μ' h' H' σ' σs'∧PoS ct E (Zu g (Zi tg ex) (items.drop i) σs' h') μ' h' H' D,?_,?_⟩
  · exact ⟨items.length,μ1,h1,σs,by simp,Nat.zero_le _,Ext.refl _ _ _,rel1,rst.ext ex1,by simpa using p2⟩
  · rintro i m σ' H' ⟨μ',h',σs',rfl,hi',ex2,rel',rst',p3⟩
    by_cases lt:i < items.length
    · right
      have ed:items.drop i=items[i]::items.drop (i + 1):=List.drop_eq_getElem_cons lt
      rw [ed] at p3
      simp only [Zu] at p3
      split at p3
      next gd =>
        obtain ⟨w1,_⟩:=wk i μ' h' H' ex2 rel' gd
        obtain ⟨go,yl⟩:=w1 lt
        refine ⟨go,fun σ2 H2=>∃ μ2 h2 σ2s,Ext μ1 h1 H1 μ2 h2 H2∧Rel ct μ2 h2 H2∧RelSt ct μ2 h2 H2 σ2 σ2s∧PoS ct E (Zu g (Zi tg ex) (items.drop (i + 1)) σ2s h2) μ2 h2 H2 D,fun σ2 H2 ⟨μ2,h2,σ2s,e2,r2,q2,p4⟩=>⟨items.length - (i + 1),by omega,μ2,h2,σ2s,rfl,lt,e2,r2,q2,p4⟩,fun x H2 y=>?_⟩
        obtain ⟨mx,em,ex3,rel2,rx⟩:=yl x H2 y
        have emx:mx=items[i]:=by simpa [lt] using em.symm
        subst emx
        have p4:=PoS.start ex3 p3
        unfold Zi at p4
        cases eb:YC tg items[i] σs' with
        | none=>rw [eb] at p4; exact p4.elim
        | some σ2s =>
          rw [eb] at p4
          simp only [Qaq] at p4
          refine ⟨μ',h',σs',items[i],σ2s,rel2,rst'.ext ex3,rx,eb,fun σ2 rst2=>?_⟩
          refine ⟨μ',h',σ2s,rel2,rst2,trivial,?_⟩
          cases er:ex σ2s h' with
          | next σ3 h3 =>
            rw [er] at p4
            intro μ3 H3 σv e3 r3 q3
            exact ⟨μ3,h3,σ3,(ex2.trans ex3).trans e3,r3,q3,PoS.start e3 p4⟩
          | cnt σ3 h3 =>
            rw [er] at p4
            intro μ3 H3 σv e3 r3 q3
            exact ⟨μ3,h3,σ3,(ex2.trans ex3).trans e3,r3,q3,PoS.start e3 p4⟩
          | brk σ3 h3=>rw [er] at p4; exact p4
          | ret m h3=>rw [er] at p4; exact p4
          | exc c h3=>rw [er] at p4; exact p4
          | stuck=>rw [er] at p4; exact p4
      next=>exact p3.elim
    · left
      have hi2:i=items.length:=by omega
      subst hi2
      rw [List.drop_length] at p3
      simp only [Zu] at p3
      split at p3
      next gd =>
        obtain ⟨_,w2⟩:=wk items.length μ' h' H' ex2 rel' gd
        exact ⟨w2 rfl,p3 μ' H' σ' (Ext.refl _ _ _) rel' rst'⟩
      next=>exact p3.elim
theorem s_frz {i:Nat} {rest:List Stmt} {ey:MSt→MH→RS} (h2:PSs X rest (lS ct yes E ey)):PSs X rest (lS ct yes E fun σ h=>(Zo ((σ[i]?).join) fun v=>(qB v h).st fun x h1=>.next (σ.set i (some x)) h1).bind fun σ1 h1=>ey σ1 h1):=PSs.imp h2 fun D σ H q=>by
  obtain ⟨μ,h,σs,rel,rst,ra,p⟩:=q
  dsimp only at p
  cases e:(σs[i]?).join with
  | none=>rw [e] at p; exact p.elim
  | some m =>
    rw [e] at p
    simp only [Qaq] at p
    have e':σs[i]?=some (some m):=by
      cases q:σs[i]? with
      | none=>rw [q] at e; cases e
      | some z=>rw [q] at e; exact congrArg some e
    obtain ⟨v,ev,rv⟩:=rst.at_ i m e'
    cases ef:qB m h with
    | stuck=>rw [ef] at p; exact p.elim
    | exc c h' =>
      unfold qB at ef
      cases ed:ZD h m with
      | none=>rw [ed] at ef; cases ef
      | some x=>rw [ed] at ef; cases ef
    | ok x h' =>
      rw [ef] at p
      simp only [R.st_ok,RS.bind_next] at p
      have po:Po ct E (qB m h) μ h H fun y μ1 h1 H1=>y=x∧h1=h':=by rw [ef]; exact fun μ' H' _ _=>⟨rfl,rfl⟩
      obtain ⟨y,h'',ex1,rel1,rv1,rfl,rfl⟩:=Qbu rel rv po
      refine ⟨μ,h'',σs.set i (some (.f y)),rel1,?_,trivial,PoS.start ex1 p⟩
      have r2:=(rst.ext ex1).set i rv1
      have:σ.set i (some v)=σ:=by
        apply List.ext_getElem?
        intro j
        by_cases hj:i=j
        · subst hj
          rw [List.getElem?_set_self (List.getElem?_eq_some_iff.mp ev).1,ev]
        · rw [List.getElem?_set_ne hj]
      rw [this] at r2
      exact r2
end
end
end SD
end
section
set_option maxHeartbeats 4000000
namespace SD
open PySem PySem.Spec PyProof.Rows L2 L3 M3 MP
noncomputable def swB (sc cs:Scope) (t:Str) (tp vp:Pos):Bool:=sc.names.lookup t == some .local&&tp.line == vp.line&&!(cs.names.any fun (n,k)=>n == t&&(k == .local || k == .cell))
theorem Qa4 {env:Env} (kd:env.scope.kind=.function) (e:Expr) (gs:List Comprehension) (cs:Scope) (vp:Pos) (t:Str) (tp:Pos) (l:Nat):swapsWith (.ListComp e gs cs vp) (some (.Name t tp)) l env=pure (swB env.scope cs t tp vp):=by
  have hb:(env.blockKind == ScopeKind.function)=true:=by
    unfold Env.blockKind
    rw [kd]; rfl
  show (pure (env.blockKind == .function&&env.kindOf t == some .local&&tp.line == vp.line&&!(cs.names.any fun (n,k)=>n == t&&(k == .local || k == .cell))):Sem Bool)=_
  rw [hb,Bool.true_and]
  rfl
noncomputable def Yaz:Expr→Option Str
  | .Name x _=>some x
  | _=>none
noncomputable def YbH:Expr→Option (Str×Str)
  | .Call f [a] [] _=>(Yaz f).bind fun z=>(Yaz a).map fun n=>(z,n)
  | _=>none
noncomputable def asAsg:Stmt→Option (Str×Str×Str)
  | .Assign [t] v _=>(Yaz t).bind fun y=>(YbH v).map fun q=>(y,q.1,q.2)
  | _=>none
noncomputable def hdForm (bd:List Stmt):ExceptHandler→Option (List Stmt×Str×Str×Str×Str×Str)
  | .ExceptHandler (some t) (some nm) [s] _=>(Yaz t).bind fun x=>(asAsg s).map fun q=>(bd,x,nm,q)
  | _=>none
noncomputable def yaW:ME→Bool
  | .comp ..=>true
  | _=>false
noncomputable def ZaC:Expr→Expr→Bool
  | .Tuple ..,.Tuple ..=>true
  | _,_=>false
section
variable (Pm:Prog)
mutual
noncomputable def chkTB (ms:MS) (N:List Str) (sc:Scope) (st:Stmt):Bool:=match ms,st with
  | .expr e,.Expr v _=>!(Qae v)&&Qe Pm e N sc v
  | .ite c a b,.If t x y _=>okT c&&Qe Pm c N sc t&&zbq a N sc x&&zbq b N sc y
  | _,_=>false
noncomputable def zbq (mss:List MS) (N:List Str) (sc:Scope) (sts:List Stmt):Bool:=match mss with
  | []=>sts.isEmpty
  | m::ms=>match sts with
    | [st]=>ms.isEmpty&&chkTB m N sc st
    | _=>false
end
mutual
noncomputable def Ybu (ms:MS) (N:List Str) (sc:Scope) (st:Stmt):Bool:=match ms,st with
  | .set tg e,.Assign [t] v _=>Qw YaR N sc tg t&&Qe Pm e N sc v&&!(ZaC t v)&&(if Qae v then yaW e else true)
  | .setSub o i e,.Assign [.Subscript x y _] v _=>Qe Pm e N sc v&&Qe Pm o N sc x&&Qe Pm i N sc y
  | .putD o k e,.Assign [.Subscript x y _] v _=>Qe Pm e N sc v&&Qe Pm o N sc x&&Qe Pm k N sc y
  | .setFld o n e,.Assign [.Attribute x m _] v _=>m == Str.ofString n&&Qe Pm e N sc v&&Qe Pm o N sc x
  | .putT o k,.Assign [.Subscript x y _] (.Constant (.bool b) _ _) _=>b&&Qe Pm o N sc x&&Qe Pm k N sc y
  | .expr e,.Expr v _=>!(Qae v)&&Qe Pm e N sc v
  | .ret e,.Return (some v) _=>Qe Pm e N sc v
  | .ite c a b,.If t x y _=>okT c&&Qe Pm c N sc t&&yH a N sc x&&yH b N sc y
  | .for_ tg it src body,.For t iter bd [] _=>ya iter&&Qw YaR N sc tg t&&yH body N sc bd &&
      (if it == "seq" then YaD Pm src N sc iter else if it == "keys" then YaD Pm src N sc iter else Zag t it iter&&gl sc (Str.ofString it)&&Zj Pm src N sc (zx iter))
  | .raise c es,.Raise (some (.Call (.Name x _) (v::vs) [] _)) none _=>x == Str.ofString c&&gl sc x&&Pm.excs c&&decide ((v::vs).length < 1000)&&Zj Pm es N sc (v::vs)
  | .pass,.Pass _=>true
  | _,_=>false
noncomputable def yH (mss:List MS) (N:List Str) (sc:Scope) (sts:List Stmt):Bool:=match mss with
  | []=>sts.isEmpty
  | .frzS _::ms=>yH ms N sc sts
  | m::ms=>match sts with
    | st::sts=>Ybu m N sc st&&yH ms N sc sts
    | []=>false
end
end
section
variable {ct:Tx} {Pm:Prog} {n:Nat}
section
variable {X:Cx} {E:XK} {N:List Str} {sc:Scope}
theorem qk {st:Stmt} {ex ex':MSt→MH→RS} {Ra:L2.St→Prop} (p:PS X st (lS ct Ra E ex)) (h:∀ σ hh,ex' σ hh=ex σ hh):PS X st (lS ct Ra E ex'):=by
  have:ex'=ex:=funext fun σ=>funext fun hh=>h σ hh
  rw [this]; exact p
theorem y0 {st:List Stmt} {ex ex':MSt→MH→RS} {Ra:L2.St→Prop} (p:PSs X st (lS ct Ra E ex)) (h:∀ σ hh,ex' σ hh=ex σ hh):PSs X st (lS ct Ra E ex'):=by
  have:ex'=ex:=funext fun σ=>funext fun hh=>h σ hh
  rw [this]; exact p
theorem Zb9 (fz:Bool) {i:Nat} {x:Str} {elt iter tg:Expr} {ifs:List Expr} {cs:Scope} {N':List Str} {ncv:Nat} {js:List Nat} {it:String} {t:Tg} {es:MSt→MH→R (List MV)} {tc:MSt→MH→R Bool} {te:MSt→MH→R MV} {pos tp vp:Pos} (c:Cs X Pm ct n E N sc) (hi0:X.N[i]?=some x) (hx:Loc X.env.scope x)
    (hok:qw X.env.scope X.N cs N' ncv js=true) (hi:PI X tg iter (lI ct yes E es it)) (hg:∀ C s3 H ex,PG (cxC X cs N' C s3 H ex) tg (lG ct t)) (hif:∀ C s3 H ex,PIf (cxC X cs N' C s3 H ex) ifs (lT ct (fun _=>True) E0 tc)) (helt:∀ C s3 H ex,PE (cxC X cs N' C s3 H ex) elt (lE ct (fun _=>True) E0 te)) (hpl:ya iter=true)
    (hsw:swapsWith (.ListComp elt [⟨tg,iter,ifs,0⟩] cs vp) (some (.Name x tp)) pos.line X.env=pure true) :
    PS X (.Assign [.Name x tp] (.ListComp elt [⟨tg,iter,ifs,0⟩] cs vp) pos) (lS ct yes E fun σ h=>((es σ h).bind fun xs h1=>opt (itV it xs h1) fun p=>(Qn p.2 (qq t tc te) p.1 [] (MP.stM ncv js σ) h1).bind fun acc h3=>Zq fz acc h3).st fun v h1=>Zo (YC (.nm i) v σ) fun σ1=>.next σ1 h1):=by
  refine PS.imp (Qbz c.cc.nd hi0 hx N' ncv js hok c.cc.calm hi hg hif helt hsw (yF hpl) (.inl (c.fn x))) fun D σ H q=>?_
  obtain ⟨μ,h,σs,rel,rst,ra,p⟩:=q
  refine zas fz σ H _ (lE.st (ev:=fun σ h=>(es σ h).bind fun xs h1=>opt (itV it xs h1) fun p=>(Qn p.2 (qq t tc te) p.1 [] (MP.stM ncv js σ) h1).bind fun acc h3=>Zq fz acc h3) rel rst ra p fun m v μ1 h1 H1 ex rel1 rst1 rv p1=>?_)
  obtain ⟨σ1,e,p2⟩:=PoS.opt p1
  simp only [YC,Option.some.injEq] at e
  subst e
  exact p2 μ1 H1 _ (Ext.refl _ _ _) rel1 (rst1.set i rv)
theorem ZaH {t v:Expr} {env:Env} {lo:Str→Bool} {tg:Tg} (ht:Qw lo N sc tg t=true) (hv:ZaC t v=false):swappedStores [t] v env=pure none:=by
  cases tg with
  | nm i =>
    cases t with
    | Name x p=>cases v <;> rfl
    | _=>simp [Qw] at ht
  | tp ts =>
    cases t with
    | Tuple es k p=>cases v <;> first | rfl | (exact Bool.noConfusion hv)
    | _=>simp [Qw] at ht
theorem ZbY {tg:Tg} {me:ME} {t v:Expr} {pos:Pos} (c:Cs X Pm ct n E N sc) (h1:Qw YaR N sc tg t=true) (h2:Qe Pm me N sc v=true) (h3:ZaC t v=false) (h4:(if Qae v=true then yaW me else true)=true) :
    PS X (.Assign [t] v pos) (lS ct yes E fun σ h=>(Za Pm (run Pm n) me σ h).st fun v h1=>Zo (YC tg v σ) fun σ1=>.next σ1 h1):=by
  by_cases hs:swapsWith v (some t) pos.line X.env=pure false
  · exact s_set c h1 (sB me c.cc v h2).1 hs (ZaH h1 h3)
  · cases hl:Qae v with
    | false=>exact absurd (qaj hl) hs
    | true =>
      rw [hl] at h4
      cases me with
      | comp fz elt tg' it src cond ncv js =>
        have h2':=h2
        have h:=Qb h2
        cases v with
        | ListComp x gs cs p =>
          rcases gs with _ | ⟨⟨t',iter,ifs,a⟩,_ | ⟨g2,gs⟩⟩
          · exact ff h
          · have h:((a == 0)&&ya iter&&qw sc N cs (tgN tg' t'++js.filterMap fun j=>N[j]?) ncv js&&decide (tgN tg' t'++js.filterMap fun j=>N[j]?).Nodup&&Qw (ownC cs) (tgN tg' t'++js.filterMap fun j=>N[j]?) (zB cs sc) tg' t'&&Qe Pm elt (tgN tg' t'++js.filterMap fun j=>N[j]?) (zB cs sc) x&&chkC Pm cond (tgN tg' t'++js.filterMap fun j=>N[j]?) (zB cs sc) ifs&&(if it == "seq" then YaD Pm src N sc iter else Zag t' it iter&&gl sc (Str.ofString it)&&Zj Pm src N sc (zx iter)))=true:=h
            simp only [Bool.and_eq_true,beq_iff_eq,decide_eq_true_eq] at h
            obtain ⟨⟨⟨⟨⟨⟨⟨ha,k1⟩,k2⟩,k3⟩,k4⟩,k5⟩,k6⟩,k7⟩:=h
            subst ha
            have hi:PI X t' iter (lI ct yes E (Qf Pm (run Pm n) src) it):=by
              split at k7
              next hs=>subst hs; exact sBi src c.cc t' iter k7
              next hs =>
                simp only [Bool.and_eq_true] at k7
                exact Qbq c.cc k7.1.1 k7.1.2 (sBs src c.cc (zx iter) k7.2)
            cases t with
            | Name y tp =>
              cases tg with
              | nm i =>
                simp only [Qw,stoB,Bool.and_eq_true,beq_iff_eq,Bool.or_eq_true] at h1
                rw [Qa4 c.kd] at hs
                have hsw:swB X.env.scope cs y tp p=true:=by
                  cases e:swB X.env.scope cs y tp p with
                  | true=>rfl
                  | false=>rw [e] at hs; exact absurd rfl hs
                have hx:Loc X.env.scope y:=by
                  rw [c.cc.sc]
                  rcases h1.2 with z | ⟨_,z⟩
                  · exact .inl z
                  · exact .inr z
                refine qk (Zb9 fz (tp:=tp) c (by rw [c.cc.nm]; exact h1.1) hx (by rw [c.cc.sc,c.cc.nm]; exact k2) hi (fun C s3 H ex=>sG rfl (c.cc.comp k3 C s3 H ex).sc k3 c.cc.calm (fun _ z=>z) tg' t' k4) (fun C s3 H ex=>sBc cond (c.cc.comp k3 C s3 H ex) ifs k6) (fun C s3 H ex=>(sB elt (c.cc.comp k3 C s3 H ex) x k5).1) k1 (by rw [Qa4 c.kd,hsw])) fun σ hh=>?_
                simp only [Za]
              | tp ts=>simp [Qw] at h1
            | _=>exact absurd (sw_lc (by intro x p z; cases z)) hs
          · exact ff h
        | _=>first | exact Bool.noConfusion hl | exact ff h
      | _=>exact Bool.noConfusion h4
end
mutual
theorem sS:∀ (ms:MS) {X:Cx} {E:XK} {N:List Str} {sc:Scope} (c:Cs X Pm ct n E N sc) (st:Stmt),Ybu Pm ms N sc st=true→PS X st (lS ct yes E (Qx Pm (run Pm n) ms))
  | .set tg e,X,E,N,sc,c,st,h=>by
    cases st with
    | Assign ts v p =>
      rcases ts with _ | ⟨t,_ | ⟨t2,ts⟩⟩
      · exact ff h
      · have h:(Qw YaR N sc tg t&&Qe Pm e N sc v&&!(ZaC t v)&&(if Qae v then yaW e else true))=true:=h
        simp only [Bool.and_eq_true,Bool.not_eq_true'] at h
        obtain ⟨⟨⟨h1,h2⟩,h3⟩,h4⟩:=h
        exact qk (ZbY c h1 h2 h3 h4) fun σ hh=>by simp only [Qx]
      · exact ff h
    | _=>exact ff h
  | .setSub o i e,X,E,N,sc,c,st,h=>by
    cases st with
    | Assign ts v p =>
      rcases ts with _ | ⟨t,_ | ⟨t2,ts⟩⟩
      · exact ff h
      · cases t with
        | Subscript x y p2 =>
          have h:(Qe Pm e N sc v&&Qe Pm o N sc x&&Qe Pm i N sc y)=true:=h
          simp only [Bool.and_eq_true] at h
          obtain ⟨⟨h1,h2⟩,h3⟩:=h
          exact qk (Ybj (sB e c.cc v h1).1 (sB o c.cc x h2).1 (sB i c.cc y h3).1 (zl h3)) fun σ hh=>by simp only [Qx] <;> rfl
        | _=>exact ff h
      · cases t <;> exact ff h
    | _=>exact ff h
  | .putT o k,X,E,N,sc,c,st,h=>by
    cases st with
    | Assign ts v p =>
      rcases ts with _ | ⟨t,_ | ⟨t2,ts⟩⟩
      · exact ff h
      · cases t with
        | Subscript x y p2 =>
          cases v with
          | Constant kk j p3 =>
            cases kk with
            | bool b =>
              have h:(b&&Qe Pm o N sc x&&Qe Pm k N sc y)=true:=h
              simp only [Bool.and_eq_true] at h
              obtain ⟨⟨rfl,h2⟩,h3⟩:=h
              exact qk (qca c.cc.units (sB o c.cc x h2).1 (sB k c.cc y h3).1) fun σ hh=>by simp only [Qx] <;> rfl
            | _=>exact ff h
          | _=>exact ff h
        | _=>exact ff h
      · cases t <;> exact ff h
    | _=>exact ff h
  | .putD o k e,X,E,N,sc,c,st,h=>by
    cases st with
    | Assign ts v p =>
      rcases ts with _ | ⟨t,_ | ⟨t2,ts⟩⟩
      · exact ff h
      · cases t with
        | Subscript x y p2 =>
          have h:(Qe Pm e N sc v&&Qe Pm o N sc x&&Qe Pm k N sc y)=true:=h
          simp only [Bool.and_eq_true] at h
          obtain ⟨⟨h1,h2⟩,h3⟩:=h
          exact qk (QbW c.cc.units (sB e c.cc v h1).1 (sB o c.cc x h2).1 (sB k c.cc y h3).1 (qbj (e:=v) (t:=.Subscript x y p2) (l:=p.line) (env:=X.env) (fun _ _ _ _=>rfl) (fun _ _ _ _=>rfl) (fun _ _ _ _ _=>rfl))) fun σ hh=>by simp only [Qx] <;> rfl
        | _=>exact ff h
      · cases t <;> exact ff h
    | _=>exact ff h
  | .setFld o f e,X,E,N,sc,c,st,h=>by
    cases st with
    | Assign ts v p =>
      rcases ts with _ | ⟨t,_ | ⟨t2,ts⟩⟩
      · exact ff h
      · cases t with
        | Attribute x m p2 =>
          have h:(m == Str.ofString f&&Qe Pm e N sc v&&Qe Pm o N sc x)=true:=h
          simp only [Bool.and_eq_true,beq_iff_eq] at h
          obtain ⟨⟨rfl,h2⟩,h3⟩:=h
          exact qk (zbs c.cc.txt (sB e c.cc v h2).1 (sB o c.cc x h3).1) fun σ hh=>by simp only [Qx] <;> rfl
        | _=>exact ff h
      · cases t <;> exact ff h
    | _=>exact ff h
  | .expr e,X,E,N,sc,c,st,h=>by
    cases st with
    | Expr v p =>
      have h:(!(Qae v)&&Qe Pm e N sc v)=true:=h
      simp only [Bool.and_eq_true,Bool.not_eq_true'] at h
      exact qk (yb6 (sB e c.cc v h.2).1 h.1) fun σ hh=>by simp only [Qx]
    | _=>exact ff h
  | .ret e,X,E,N,sc,c,st,h=>by
    cases st with
    | Return v p =>
      cases v with
      | some v=>exact qk (s_ret (sB e c.cc v (show Qe Pm e N sc v=true from h)).1) fun σ hh=>by simp only [Qx]
      | none=>exact ff h
    | _=>exact ff h
  | .retN,X,E,N,sc,c,st,h=>ff h
  | .ite d a b,X,E,N,sc,c,st,h=>by
    cases st with
    | If t x y p =>
      have h:(okT d&&Qe Pm d N sc t&&yH Pm a N sc x&&yH Pm b N sc y)=true:=h
      simp only [Bool.and_eq_true] at h
      obtain ⟨⟨⟨h0,h1⟩,h2⟩,h3⟩:=h
      exact qk (s_if ((sB d c.cc t h1).2 h0) (sSs a c x h2) (sSs b c y h3)) fun σ hh=>by simp only [Qx]
    | _=>exact ff h
  | .for_ tg it src body,X,E,N,sc,c,st,h=>by
    cases st with
    | For t iter bd oe p =>
      cases oe with
      | cons _ _=>exact ff h
      | nil =>
        have h:(ya iter&&Qw YaR N sc tg t&&yH Pm body N sc bd&&(if it == "seq" then YaD Pm src N sc iter else if it == "keys" then YaD Pm src N sc iter else Zag t it iter&&gl sc (Str.ofString it)&&Zj Pm src N sc (zx iter)))=true:=h
        simp only [Bool.and_eq_true] at h
        obtain ⟨⟨⟨h1,h2⟩,h3⟩,h4⟩:=h
        have hi:PI X t iter (lI ct yes E (Qf Pm (run Pm n) src) it):=by
          split at h4
          next hs =>
            have hs':it="seq":=by simpa using hs
            subst hs'; exact sBi src c.cc t iter h4
          next hs =>
            split at h4
            next hs2 =>
              have hs':it="keys":=by simpa using hs2
              subst hs'; exact sBk src c.cc t iter h4
            next =>
              simp only [Bool.and_eq_true] at h4
              exact Qbq c.cc h4.1.1 h4.1.2 (sBs src c.cc (zx iter) h4.2)
        exact qk (s_for c hi h2 (sSs body c bd h3) h1) fun σ hh=>by simp only [Qx]
    | _=>exact ff h
  | .while_ d body,X,E,N,sc,c,st,h=>ff h
  | .raise cn es,X,E,N,sc,c,st,h=>by
    cases st with
    | Raise x y p =>
      cases x with
      | none=>exact ff h
      | some x =>
        cases x with
        | Call g as ks cp =>
          cases g with
          | Name x np =>
            cases as with
            | nil=>exact ff h
            | cons v vs =>
              cases ks with
              | cons _ _=>exact ff h
              | nil =>
                cases y with
                | some _=>exact ff h
                | none =>
                  have h:(x == Str.ofString cn&&gl sc x&&Pm.excs cn&&decide ((v::vs).length < 1000)&&Zj Pm es N sc (v::vs))=true:=h
                  simp only [Bool.and_eq_true,beq_iff_eq,decide_eq_true_eq] at h
                  obtain ⟨⟨⟨⟨rfl,h1⟩,h2⟩,h3⟩,h4⟩:=h
                  have b:=sBs es c.cc (v::vs) h4
                  exact qk (zbE c h2 h1 b.pa b.plain (zby b h3)) fun σ hh=>by simp only [Qx]
          | _=>exact ff h
        | _=>exact ff h
    | _=>exact ff h
  | .tryW body ei dst wd,X,E,N,sc,c,st,h=>ff h
  | .tryK body ei dst,X,E,N,sc,c,st,h=>ff h
  | .brk,X,E,N,sc,c,st,h=>ff h
  | .cnt,X,E,N,sc,c,st,h=>ff h
  | .pass,X,E,N,sc,c,st,h=>by
    cases st with
    | Pass p=>exact qk ZbS fun σ hh=>by simp only [Qx]
    | _=>exact ff h
  | .frzS i,X,E,N,sc,c,st,h=>by
    exact ff h
theorem sSs:∀ (mss:List MS) {X:Cx} {E:XK} {N:List Str} {sc:Scope} (c:Cs X Pm ct n E N sc) (sts:List Stmt),yH Pm mss N sc sts=true→PSs X sts (lS ct yes E (qb Pm (run Pm n) mss))
  | [],X,E,N,sc,c,sts,h=>by
    cases sts with
    | nil=>exact y0 s_nil fun σ hh=>by simp only [qb]
    | cons _ _=>exact ff h
  | m::ms,X,E,N,sc,c,sts,h=>by
    cases m with
    | frzS i=>exact y0 (s_frz (i:=i) (sSs ms c sts h)) fun σ hh=>by simp only [qb,Qx]
    | _ =>
      cases sts with
      | nil=>exact ff h
      | cons st sts =>
        first
        | (have h:(Ybu Pm _ N sc st&&yH Pm ms N sc sts)=true:=h
           simp only [Bool.and_eq_true] at h
           exact y0 (s_seq (sS _ c st h.1) (sSs ms c sts h.2)) fun σ hh=>by simp only [qb])
        | exact ff h
end
end
end SD
end
section
set_option maxHeartbeats 4000000
namespace SD
open PySem PySem.Spec PyProof.Rows L2 L3 M3 MP
noncomputable def zj (Pm:Prog) (d:MDef) (N ps:List Str) (st:Stmt):Bool :=
  (yc st).kind == .function&&!(yc st).isCoroutine&&!(yc st).isGenerator&&decide N.Nodup&&decide (N.take ps.length=ps)&&ps.all (fun x=>(yc st).names.lookup x == some .local || (yc st).names.lookup x == some .cell) &&
    (yc st).names.all (fun y=>y.2 != .free)&&d.np == ps.length&&d.ns == N.length&&yH Pm d.body N (yc st) (Yg st)
section
variable {P:Program} {w:World} {K:PySem.W.Frag} {mg:Str→Option Value} {base:Heap} {Pm:Prog} {ct:Tx} {n:Nat} {d:MDef} {N ps:List Str} {st:Stmt} {f:String}
theorem ZG (h:zj Pm d N ps st=true):FnScope N ps (yc st)∧d.np=ps.length∧d.ns=N.length∧yH Pm d.body N (yc st) (Yg st)=true:=by
  unfold zj at h
  simp only [Bool.and_eq_true,beq_iff_eq,Bool.not_eq_true',decide_eq_true_eq,List.all_eq_true,Bool.or_eq_true,bne_iff_ne,ne_eq] at h
  obtain ⟨⟨⟨⟨⟨⟨⟨⟨⟨h1,h2⟩,h3⟩,h4⟩,h5⟩,h6⟩,h7⟩,h8⟩,h9⟩,h10⟩:=h
  exact ⟨⟨h1,h2,h3,h4,h5,h6,h7⟩,h8,h9,h10⟩
theorem za6 {ms:List MV} {h:MH} {r:R MV} (hd:Pm.defs f=some d) (e:MP.run Pm (n + 1) f ms h=r) (hr:r≠.stuck):ms.length=d.np∧r=Zd h (qb Pm (MP.run Pm n) d.body (ms.map some++List.replicate (d.ns - d.np) none) h):=by
  simp only [MP.run,hd,Zf] at e
  split at e
  next c=>exact ⟨c,e.symm⟩
  next=>exact absurd e.symm hr
theorem zaB (hd:Pm.defs f=some d) (hn:d.np=ps.length):∀ vs H Q E,spR ct (MP.run Pm (n + 1) f) vs H Q E→vs.length=ps.length:=by
  intro vs H Q E ⟨μ,h,ms,rel,rvs,p⟩
  cases er:MP.run Pm (n + 1) f ms h with
  | stuck=>rw [er] at p; exact p.elim
  | ok x h'=>rw [rvs.length,(za6 hd er (fun z=>nomatch z)).1,hn]
  | exc c h'=>rw [rvs.length,(za6 hd er (fun z=>nomatch z)).1,hn]
theorem YaB (T:Txt P w K mg base Pm ct n) (hK:K=ct.K) (hd:Pm.defs f=some d) (hb:zj Pm d N ps st=true) (qual:Str) (fa:Addr) (cdv:Value) (A:Around) (outer:List Env) (s:Shared) (H:Hp) (vs:List V) (Q:VK) (E:XK)
    (hr:Room (2 * n + 1) (A.deeper (envOfC qual (yc st) s.heap.objs.size fa cdv))) (hsp:spR ct (MP.run Pm (n + 1) f) vs H Q E) :
    ∃ t,PSs (Y9 (CX1 P w) P w K mg base N qual (yc st) fa cdv A outer s H E) (Yg st) t∧t {nx:=fun _ H'=>Q .non H',rt:=Q} (L2.start N vs) H:=by
  obtain ⟨S,hn,hs,hc⟩:=ZG hb
  have cs:Cs (Y9 (CX1 P w) P w K mg base N qual (yc st) fa cdv A outer s H E) Pm ct n E N (yc st) :=
    ⟨⟨T,rfl,hr,fun σ _ pins H s e s' I h=>Zbg rfl Zas pins σ H s e s' I h,rfl,rfl,S.nd,hK⟩,rfl,QbF,Zas,fun _=>rfl,S.kind,rfl,rfl⟩
  refine ⟨_,sSs d.body cs (Yg st) hc,?_⟩
  obtain ⟨μ,h,ms,rel,rvs,p⟩:=hsp
  have hlen:=zaB hd hn vs H Q E ⟨μ,h,ms,rel,rvs,p⟩
  have hml:ms.length=d.np:=by rw [← rvs.length,hlen,hn]
  refine ⟨μ,h,ms.map some++List.replicate (d.ns - d.np) none,rel,?_,trivial,?_⟩
  · refine ⟨by unfold L2.start; simp [rvs.length,hml,hs],fun i m e=>?_⟩
    by_cases hi:i < ms.length
    · rw [List.getElem?_append_left (by simpa using hi),List.getElem?_map] at e
      cases em:ms[i]? with
      | none=>rw [em] at e; cases e
      | some m' =>
        rw [em] at e
        simp only [Option.map_some,Option.some.injEq] at e
        subst e
        obtain ⟨v,ev,rv⟩:=rvs.get em
        refine ⟨v,?_,rv⟩
        unfold L2.start
        rw [List.getElem?_append_left (by rw [List.length_map,rvs.length]; exact hi),List.getElem?_map,ev]; rfl
    · rw [List.getElem?_append_right (by simpa using hi),List.getElem?_replicate] at e
      split at e <;> cases e
  · have er:MP.run Pm (n + 1) f ms h=Zd h (qb Pm (MP.run Pm n) d.body (ms.map some++List.replicate (d.ns - d.np) none) h):=by
      simp only [MP.run,hd,Zf,if_pos hml]
    rw [er] at p
    cases ex:qb Pm (MP.run Pm n) d.body (ms.map some++List.replicate (d.ns - d.np) none) h with
    | next σ' h' =>
      rw [ex] at p
      intro μ' H' σ e1 r1 q1
      obtain ⟨ν,rfl⟩:=e1.pre
      exact ZaI rel e1 r1 QaD p
    | ret m h' =>
      rw [ex] at p
      intro μ' H' v e1 r1 rv
      obtain ⟨ν,rfl⟩:=e1.pre
      exact ZaI rel e1 r1 rv p
    | exc c h' =>
      rw [ex] at p
      intro μ' H' e1 r1
      obtain ⟨ν,rfl⟩:=e1.pre
      exact Ybd rel e1 r1 p
    | brk σ' h'=>rw [ex] at p; exact p.elim
    | cnt σ' h'=>rw [ex] at p; exact p.elim
    | stuck=>rw [ex] at p; exact p.elim
theorem Qba (T:Txt P w K mg base Pm ct n) (hK:K=ct.K) (S:Src K mg (Str.ofString f) st ps) (hd:Pm.defs f=some d) (hb:zj Pm d N ps st=true):QaI P w K mg base (Str.ofString f) (2 * (n + 1)) ps (spR ct (MP.run Pm (n + 1) f)) :=
  zca (k:=2 * n + 1) S (ZG hb).1 (zaB hd (ZG hb).2.1) fun fa cdv A outer s H vs Q E hr hsp=>YaB T hK hd hb _ fa cdv A outer s H vs Q E hr hsp
theorem qak {x qual:Str} {fa:Addr} {fd:FuncData} (T:Txt P w K mg base Pm ct n) (hK:K=ct.K) (F:Fun K x qual st fa fd) (hd:Pm.defs f=some d) (hb:zj Pm d N ps st=true):FnOk P w K mg base (CX1 P w) (2 * (n + 1)) fa fd ps (spR ct (MP.run Pm (n + 1) f)):=by
  obtain ⟨oc,od,kV,doc,pm,an,cdv,ctv,osl,rfl,lk,hcd⟩:=F.ex
  exact Ya1 (k:=2 * n + 1) lk hcd (ZG hb).1 (zaB hd (ZG hb).2.1) fun A outer s H vs Q E hr hsp=>YaB T hK hd hb _ fa cdv A outer s H vs Q E hr hsp
theorem qa6 {x qual:Str} {fa:Addr} {fd:FuncData} (T:Txt P w K mg base Pm ct n) (hK:K=ct.K) (F:FunD K x qual st fa fd) (hd:Pm.defs f=some d) (hb:zj Pm d N ps st=true):FnOk P w K mg base (CX1 P w) (2 * (n + 1)) fa fd ps (spR ct (MP.run Pm (n + 1) f)):=by
  obtain ⟨oc,od,dV,kV,doc,pm,an,cdv,ctv,osl,rfl,lk,hcd⟩:=F.ex
  exact Ya1 (k:=2 * n + 1) lk hcd (ZG hb).1 (zaB hd (ZG hb).2.1) fun A outer s H vs Q E hr hsp=>YaB T hK hd hb _ fa cdv A outer s H vs Q E hr hsp
end
noncomputable def qaZ (K:PySem.W.Frag) (mg:Str→Option Value) (Pm:Prog) (ct:Tx) (f:String) (ps:List Str):Prop :=
  ∀ (P:Program) (w:World) (base:Heap) (n:Nat),K.In base→(ct.cd≠0→LamB mg base ct.cd ct.tb)→QaI P w K mg base (Str.ofString f) (2 * (n + 1)) ps (spR ct (MP.run Pm (n + 1) f))
structure Text (K:PySem.W.Frag) (mg:Str→Option Value) (Pm:Prog) (ct:Tx):Prop where
  hK:K=ct.K
  defs:∀ f d,Pm.defs f=some d→f.toList.contains '.'=false→∃ st N ps,Src K mg (Str.ofString f) st ps∧(zj Pm d N ps st=true∨qaZ K mg Pm ct f ps)
  inits:∀ c f,Pm.meths c "__init__"=some f→∃ d st N ps fa fd x qual,Pm.defs f=some d∧Mk K (ct c) fa∧Fun K x qual st fa fd∧Binds K fd ps []∧mg (Str.ofString c)=some (.ref (ct c))∧zj Pm d N ps st=true
  blts:∀ x∈fnNames++tyNames++isTys++["range","zip","enumerate","isinstance","sorted","reversed"],mg (Str.ofString x)=none
  fok:∀ c f,Pm.fok c f=true→Cls K (ct c)∧NoAttr K (ct c) (Str.ofString f)
  cls:∀ c t b,Pm.subs c t=some b→ClsOk K (ct c)
  subC:∀ c t b,Pm.subs c t=some b→isTys.contains t=false→mg (Str.ofString t)=some (.ref (ct t))∧PySem.W.kitOne K (.ref (ct c)) (.ref (ct t))=some b
  subT:∀ c t b,Pm.subs c t=some b→isTys.contains t=true→PySem.W.kitOne K (.ref (ct c)) (.type t)=some b
  tyC:∀ t c b,Pm.subs c t=some b→isTys.contains t=false→∀ T∈["NoneType","bool","int","str","list","tuple"],PySem.W.kitOne K (.type T) (.ref (ct t))=some false
  excs:∀ c,Pm.excs c=true→qT K (ct c)∧mg (Str.ofString c)=some (.ref (ct c))
  words:∀ wd,Pm.words wd=true→qT K (ct "DotError")∧mg "DotError"=some (.ref (ct "DotError"))∧(∀ (P:Program) (w:World) (base:Heap),∃ ps,Qbl P w K mg base (Str.ofString wd) 1 ps (spW ct Pm wd)) ∧
    ∀ c s,Pm.word wd c=some s→qT K (ct c)∧(qU K (ct c)).contains (.ref (ct "DotError"))=true
  xcls:∀ t,Pm.xcls t=true→(if t="ValueError" then mg "ValueError"=none else mg (Str.ofString t)=some (.ref (ct t)))
  xs:∀ c t b,Pm.xsubs c t=some b→ExcK K (ct c)∧PySem.W.kitOne K (.ref (ct c)) (if t="ValueError" then .type "ValueError" else .ref (ct t))=some b
  dfl:∀ f ds,Pm.dfl f ds=true→∃ d st N ps fa fd dvals,Pm.defs f=some d∧FunD K (Str.ofString f) (Str.ofString f) st fa fd∧Binds K fd ps dvals∧Vals (ds.map V.int) dvals∧mg (Str.ofString f)=some (.ref fa)∧zj Pm d N ps st=true
  meths:∀ c m f,Pm.meths c m=some f→m≠"__init__"→Cls K (ct c)∧∃ d st N ps fa fd x qual,Pm.defs f=some d∧Meth K (ct c) (Str.ofString m) fa∧Fun K x qual st fa fd∧Binds K fd ps []∧zj Pm d N ps st=true
  mk0:∀ c,Pm.mk0 c=true→Mk0 K (ct c)∧mg (Str.ofString c)=some (.ref (ct c))
  globs:∀ x i,Pm.globs x=some (.int i)→∃ t,mg (Str.ofString x)=some (.int i t)
  xdot:Pm.xt=true→qT K (ct "DotError")∧mg "DotError"=some (.ref (ct "DotError"))∧∀ c b,Pm.xsubs c c=some b→qT K (ct c)∧(qU K (ct c)).contains (.ref (ct "DotError"))=true
theorem sp0 {ct:Tx} {Pm:Prog} {f:String} {vs:List V} {H:Hp} {Q:VK} {E:XK} (h:spR ct (MP.run Pm 0 f) vs H Q E):False:=by
  obtain ⟨μ,h,ms,rel,rvs,p⟩:=h
  exact p
theorem ZV {P:Program} {w:World} {K:PySem.W.Frag} {mg:Str→Option Value} {base:Heap} {Pm:Prog} {ct:Tx} (T:Text K mg Pm ct) (kb:K.In base) (lb:ct.cd≠0→LamB mg base ct.cd ct.tb):∀ n,Txt P w K mg base Pm ct n
  | 0=>⟨fun f d hd hdot=>by
      obtain ⟨st,N,ps,⟨fa,fd,F,b,m⟩,hb⟩:=T.defs f d hd hdot
      exact ⟨ps,fa,fd,⟨fun vs H Q E h=>(sp0 h).elim,fun A outer s H args us vs Q E _ _ _ _ h=>(sp0 h).elim⟩,b,F.kp,m⟩,
    fun c f hi=>by
      obtain ⟨d,st,N,ps,fa,fd,x,qual,hd,M,F,b,m,hb⟩:=T.inits c f hi
      exact ⟨ps,fa,fd,M,⟨fun vs H Q E h=>(sp0 h).elim,fun A outer s H args us vs Q E _ _ _ _ h=>(sp0 h).elim⟩,b,m⟩,
    T.blts,T.fok,T.cls,T.subC,T.subT,T.tyC,T.excs,fun wd hw=>let ⟨a,b,c,d⟩:=T.words wd hw; ⟨a,b,c P w base,d⟩,T.xcls,T.xs,fun f ds hf=>let ⟨d,st,N,ps,fa,fd,dvals,hd,F,b,vd,m,hb⟩:=T.dfl f ds hf; ⟨ps,fa,fd,dvals,⟨fun vs H Q E h=>(sp0 h).elim,fun A outer s H args us vs Q E _ _ _ _ h=>(sp0 h).elim⟩,b,vd,F.kp,m⟩,T.xdot,fun c m f hm hi=>by
      obtain ⟨cl,d,st,N,ps,fa,fd,x,qual,hd,M,F,b,hb⟩:=T.meths c m f hm hi
      exact ⟨cl,fa,fd,ps,M,⟨fun vs H Q E h=>(sp0 h).elim,fun A outer s H args us vs Q E _ _ _ _ h=>(sp0 h).elim⟩,b⟩,T.mk0,T.globs⟩
  | n + 1=>⟨fun f d hd hdot=>by
      obtain ⟨st,N,ps,S,hb⟩:=T.defs f d hd hdot
      exact ⟨ps,hb.elim (fun hb=>Qba (ZV T kb lb n) T.hK S hd hb) fun hp=>hp P w base n kb lb⟩,
    fun c f hi=>by
      obtain ⟨d,st,N,ps,fa,fd,x,qual,hd,M,F,b,m,hb⟩:=T.inits c f hi
      exact ⟨ps,fa,fd,M,qak (ZV T kb lb n) T.hK F hd hb,b,m⟩,
    T.blts,T.fok,T.cls,T.subC,T.subT,T.tyC,T.excs,fun wd hw=>let ⟨a,b,c,d⟩:=T.words wd hw; ⟨a,b,c P w base,d⟩,T.xcls,T.xs,fun f ds hf=>let ⟨d,st,N,ps,fa,fd,dvals,hd,F,b,vd,m,hb⟩:=T.dfl f ds hf; ⟨ps,fa,fd,dvals,qa6 (ZV T kb lb n) T.hK F hd hb,b,vd,F.kp,m⟩,T.xdot,fun c m f hm hi=>by
      obtain ⟨cl,d,st,N,ps,fa,fd,x,qual,hd,M,F,b,hb⟩:=T.meths c m f hm hi
      exact ⟨cl,fa,fd,ps,M,qak (ZV T kb lb n) T.hK F hd hb,b⟩,T.mk0,T.globs⟩
end SD
end
section
set_option maxHeartbeats 4000000
namespace SD
open PySem PySem.Spec PyProof.Rows L2 L3 M3 MP
section
variable {K:PySem.W.Frag} {t C:Addr} {cd:ClassData}
theorem zbD {b:Bool} (s0:PySem.W.subIn K (.ref t) (.ref t)=some true) (ci:PySem.W.clsIn K C=some cd) (ty:PySem.W.typeIn K (.ref C)=some (.type "type")) (s:PySem.W.subIn K (.ref t) (.ref C)=some b):PySem.W.kitOne K (.ref t) (.ref C)=some b:=by
  unfold PySem.W.kitOne PySem.W.kitCls
  by_cases ne:(Value.ref t == Value.ref C)=true
  · have e':Value.ref t=Value.ref C:=eq_of_beq ne
    rw [if_pos ne]
    rw [e'] at s0 s
    rw [s0] at s
    exact s
  rw [if_neg ne]
  show (if ((PySem.W.clsIn K C).isSome&&PySem.W.typeIn K (.ref C) == some (.type "type"))=true then PySem.W.subIn K (.ref t) (.ref C) else none)=some b
  rw [ci,ty,if_pos (by rfl),s]
theorem zZ {T:String} {b:Bool} (m:PySem.W.kitMeta T=true) (s:PySem.W.subIn K (.ref t) (.type T)=some b):PySem.W.kitOne K (.ref t) (.type T)=some b:=by
  unfold PySem.W.kitOne PySem.W.kitCls
  rw [if_neg (fun e=>by have e':Value.ref t=Value.type T:=eq_of_beq e; cases e')]
  show (if PySem.W.kitMeta T=true then PySem.W.subIn K (.ref t) (.type T) else none)=some b
  rw [if_pos m,s]
theorem qbR {T:String} (m:PySem.W.subIn K (.type T) (.ref C)=some false) (ci:PySem.W.clsIn K C=some cd) (ty:PySem.W.typeIn K (.ref C)=some (.type "type")):PySem.W.kitOne K (.type T) (.ref C)=some false:=by
  unfold PySem.W.kitOne PySem.W.kitCls
  rw [if_neg (fun e=>by have e':Value.type T=Value.ref C:=eq_of_beq e; cases e')]
  show (if ((PySem.W.clsIn K C).isSome&&PySem.W.typeIn K (.ref C) == some (.type "type"))=true then PySem.W.subIn K (.type T) (.ref C) else none)=some false
  rw [ci,ty,if_pos (by rfl),m]
theorem YbF (C:Addr):∀ T∈["NoneType","bool","int","str","list","tuple"],PySem.W.subIn K (.type T) (.ref C)=some false:=by
  intro T hT
  simp only [List.mem_cons,List.not_mem_nil,or_false] at hT
  rcases hT with rfl | rfl | rfl | rfl | rfl | rfl <;> rfl
theorem yM {T:String} (hT:T∈isTys):PySem.W.kitMeta T=true:=by
  simp only [isTys,List.mem_cons,List.not_mem_nil,or_false] at hT
  rcases hT with rfl | rfl | rfl | rfl | rfl | rfl <;> decide +kernel
end
theorem src_mk {K:PySem.W.Frag} {h:Heap} {mg:Str→Option Value} {x:Str} {st:Stmt} {ps:List Str} {f:Addr} {oc:Value} {od an:Option Addr} {osl:Array (Option Value)} {kV doc pm cdv ct:Value} (X:K.In h) (G:h.Ns mainGlobals mg)
    (hb:∀ (kV doc pm:Value) (an:Option Addr) (cdv ct:Value) (us:List Value),us.length=ps.length→bindArgs (PySem.W.fnOf x x (yj st) (Yg st) (yc st) .none kV doc pm an cdv ct) ⟨us,[]⟩=pure (ps.zip us))
    (a:PySem.W.nsIn K mainGlobals x=some (some (.ref f))) (l:K.lookup f=some ⟨oc,od,.func (PySem.W.fnOf x x (yj st) (Yg st) (yc st) .none kV doc pm an cdv ct),osl⟩)
    (c:PySem.W.codeIn K cdv x=true) (k:PySem.W.keepIn K (.ref f)=true):Src K mg x st ps :=
  ⟨f,_,QbI (st:=st) l c k,(ZaE (st:=st) l c k).binds hb,PySem.W.mg_of X G a⟩
end SD
end
section
set_option maxHeartbeats 4000000
namespace SD
open PySem PySem.Spec PyProof.Rows L2 L3 M3 MP
noncomputable def ya4 (H:Hp) (tb:Addr) (lp:Pos):Prop:=H tb=some (.ext (qA tb lp none))∧∀ b,b≠tb→H b=none∨∃ o xs,H b=some (.frz o (.lst xs))
noncomputable def QT (tb:Addr) (lp:Pos):VK:=fun v H'=>v=.bl true∧∃ oc,H' tb=some (.ext (qA tb lp oc))
theorem ybc {P:Program} {w:World} {K:PySem.W.Frag} {mg mb:Str→Option Value} {CX:CXT} {k:Nat} {fa a:Addr} {fd:FuncData} {x:Str} {sp:Sp} {s₁:Shared} {vs:List Value} {ns:List Int} {cd tb:Addr} {lp:Pos}
    (KX:K.In s₁.heap) (hns:s₁.heap.Ns mainGlobals mg) (hb:s₁.heap.Ns builtinsNs mb) (hbb:∀ x:Str,x≠"__name__"→mb x=bootBuiltins x) (hlim:s₁.heap.NoLimit) (hg:s₁.gens=#[])
    (ha:s₁.heap.get? a=some {cls:=.type "list",data:=.seq vs.toArray}) (hi:IntsAre vs ns) (hl:ns.length≤sizeLine) (hr:Room k callerA)
    (L:LamB mg s₁.heap cd tb) (ht:s₁.heap.get? tb=some (PySem.W.tabObj #[])) (hK:K.lookup tb=none)
    (F:∀ base:Heap,K.In base→base.Ns mainGlobals mg→LamB mg base cd tb→FnOk P w K mg base CX k fa fd [x] sp) (hbind:∀ (s:Shared) (u:Value),BindsTo s fd ⟨[u],[]⟩ [(x,u)])
    (hsp:∀ H:Hp,ya4 H tb lp→SqL K H a (ns.map V.int)→sp [.ref a] H (QT tb lp) fun _ _ _=>False)
    (hCX:∀ H e s',CX [] H s₁ (fun _ _ _=>False) e s'→False) :
    codeAny (model P w) callerA (.call (.ref fa) ⟨[.ref a],[]⟩) (fun r s'=>r=.ok (.ret (.bool true))∧OldK s₁.heap s'.heap∧s'.os=s₁.os∧AllBare s'.gens) s₁:=by
  have rv:=qat hi
  have lenV:=hi.length
  have hat:a≠tb:=fun z=>by rw [z,ht] at ha; cases ha
  have core:∀ H:Hp,ya4 H tb lp→SqL K H a (ns.map V.int)→HOk P w H s₁.heap→(∀ b,H b≠none→b=a∨b=tb)→(H a≠none→K.lookup a=none) →
      codeAny (model P w) callerA (.call (.ref fa) ⟨[.ref a],[]⟩) (fun r s'=>r=.ok (.ret (.bool true))∧OldK s₁.heap s'.heap∧s'.os=s₁.os∧AllBare s'.gens) s₁:=by
    intro H hO hS hok hA hKa
    have base_of:∀ {b:Addr} {o:Obj},s₁.heap.get? b=some o→H b=none→(Yao s₁.heap H).get? b=some o:=fun e n=>qbt e n
    have noH:∀ {b:Addr} {o:Obj},s₁.heap.get? b=some o→o.cls≠.type "list"→o.cls≠.none→H b=none:=fun {b o} e c1 c2=>by
      cases q:H b with
      | none=>rfl
      | some u =>
        rcases hA b (by rw [q]; simp) with e' | e'
        · subst e'; rw [ha] at e; cases e; exact absurd rfl c1
        · subst e'; rw [ht] at e; cases e; exact absurd rfl c2
    have noA:∀ {b:Addr} {o:Obj} {es:Array DictEntry} {ep:Nat},s₁.heap.get? b=some o→o.data=.dict es ep→H b=none:=fun {b o es ep} e d=>by
      cases q:H b with
      | none=>rfl
      | some u =>
        rcases hA b (by rw [q]; simp) with e' | e'
        · subst e'; rw [ha] at e; cases e
          have d':Data.seq vs.toArray _=Data.dict es ep:=d
          cases d'
        · subst e'; rw [ht] at e; cases e; cases d
    have nsK:∀ {b:Addr} {m:Str→Option Value},s₁.heap.Ns b m→(Yao s₁.heap H).Ns b m:=fun {b m} ⟨o,es,ep,e,d,r⟩=>⟨o,es,ep,base_of e (noA e d),d,r⟩
    have hKb:K.In (Yao s₁.heap H):=fun b o e=>base_of (KX b o e) (by
      cases q:H b with
      | none=>rfl
      | some u =>
        rcases hA b (by rw [q]; simp) with e' | e'
        · subst e'; rw [hKa (by rw [q]; simp)] at e; cases e
        · subst e'; rw [hK] at e; cases e)
    have hM:Mod K mg (Yao s₁.heap H):=⟨hKb,nsK hns,⟨mb,nsK hb,hbb⟩,let ⟨mc,h1,h2⟩:=hlim; ⟨mc,nsK h1,h2⟩⟩
    have hL:LamB mg (Yao s₁.heap H) cd tb:=by
      obtain ⟨⟨o,vs',file,tf,flags,tg,inF,text,tt,e1,e2,r⟩,bm,ob,b1,b2,b3,b4,r2⟩:=L
      refine ⟨⟨o,vs',file,tf,flags,tg,inF,text,tt,base_of e1 (noH e1 (by rw [e2]; simp) (by rw [e2]; simp)),e2,r⟩,bm,ob,b1,b2,base_of b3 (noH b3 (by rw [b4]; simp) (by rw [b4]; simp)),b4,r2⟩
    have e0:Env0 P w K mg (Yao s₁.heap H) callerA [] s₁ H:=⟨rfl,hM,fun b o e=>ZbF e,Nat.le_of_eq (qbf _ _),trivial,fun b hb=>absurd (show b∈([]:List Addr) from hb) (by simp),hok,.of_eq hg⟩
    refine codeAny_mono ((F _ hKb (nsK hns) hL).run callerA [] s₁ H ⟨[.ref a],[]⟩ [.ref a] [.ref a] _ _ hr e0 (hbind s₁ (.ref a)) (.cons rfl .nil) (hsp H hO hS)) fun r s' h=>?_
    cases r with
    | error e=>exact (hCX H e s' h).elim
    | ok fl =>
      cases fl with
      | next=>exact False.elim h
      | brk=>exact False.elim h
      | cont=>exact False.elim h
      | ret u =>
        obtain ⟨v,H',os,bare,un,hok',r',q',oc,htb⟩:=h
        subst q'
        obtain rfl:u=Value.bool true:=r'
        obtain ⟨⟨ps,ep,_⟩,_⟩:=hok' tb _ htb
        have keep:∀ b o,b≠tb→s₁.heap.get? b=some o→s'.heap.get? b=some o:=fun b o n e=>by
          cases q:H b with
          | none=>exact un.keep b o e q (by intro z; exact absurd (show b∈([]:List Addr) from z) (by simp)) (by simp)
          | some u =>
            rcases hO.2 b n with z | ⟨ob,xs,z⟩
            · rw [q] at z; cases z
            · have z2:=un.frzs b ob _ z
              obtain ⟨e1,_⟩:=hok b _ z
              obtain ⟨e2,_⟩:=hok' b _ z2
              rw [e] at e1; cases e1
              exact e2
        refine ⟨rfl,⟨fun b o e=>?_,fun b o e=>?_⟩,os,bare⟩
        · by_cases hb:b=tb
          · subst hb
            rw [ht] at e; cases e
            exact .inr (.inl ⟨(L.code.tab ht).isCodeTable,rfl,#[],ps,rfl,by rw [ep]; simp⟩)
          · exact .inl (keep b o hb e)
        · by_cases hb:b=tb
          · subst hb; exact ⟨_,ep⟩
          · exact ⟨o,keep b o hb e⟩
  have tok:qA tb lp none s₁.heap:=⟨#[],ht,trivial,rfl⟩
  cases hk:K.lookup a with
  | some o =>
    have e:=KX a o hk
    rw [ha] at e
    cases e
    refine core (fun b=>if b=tb then some (.ext (qA tb lp none)) else none) ⟨if_pos rfl,fun b n=>.inl (if_neg n)⟩ (.inr ⟨_,vs.toArray,_,hk,rfl,rfl,rfl,by rw [List.size_toArray,lenV]; exact hl,by simpa using rv⟩) (fun b u z=>?_) (fun b z=>?_) fun z=>absurd (if_neg hat) z
    · by_cases hb:b=tb
      · have z':=(if_pos hb).symm.trans z
        cases z'; subst hb
        exact qaC tok
      · have z':=(if_neg hb).symm.trans z
        cases z'
    · by_cases hb:b=tb
      · exact .inr hb
      · exact absurd (if_neg hb) z
  | none =>
    refine core (fun b=>if b=tb then some (.ext (qA tb lp none)) else if b=a then some (.frz {cls:=.type "list",data:=.seq vs.toArray} (.lst (ns.map V.int))) else none) ⟨if_pos rfl,fun b n=>?_⟩ (.inl (.inr ⟨{cls:=.type "list",data:=.seq vs.toArray},(if_neg hat).trans (if_pos rfl)⟩)) (fun b u z=>?_) (fun b z=>?_) fun _=>hk
    · by_cases hb:b=a
      · exact .inr ⟨_,_,(if_neg n).trans (if_pos hb)⟩
      · exact .inl ((if_neg n).trans (if_neg hb))
    · by_cases hb:b=tb
      · have z':=(if_pos hb).symm.trans z
        cases z'; subst hb
        exact qaC tok
      · have z:=(if_neg hb).symm.trans z
        by_cases hb:b=a
        · have z':=(if_pos hb).symm.trans z
          cases z'; subst hb
          exact ⟨ha,by rw [List.length_map]; exact hl,vs,_,rv,ha⟩
        · have z':=(if_neg hb).symm.trans z
          cases z'
    · by_cases hb:b=tb
      · exact .inr hb
      · by_cases hb':b=a
        · exact .inl hb'
        · exact absurd ((if_neg hb).trans (if_neg hb')) z
noncomputable def ZaT (K:PySem.W.Frag) (tb:Addr) (lp:Pos):Sp:=fun vs H Q E=>∃ (a:Addr) (ns:List Int),vs=[.ref a]∧ns.length≤63∧ya4 H tb lp∧SqL K H a (ns.map V.int)∧Q=QT tb lp∧E=fun _ _ _=>False
theorem walkT {l:PySem.W.OpenLaw} {q:Program} {loose:List Str} {XP:(Str→Option Value)→Heap→Prop} {YP:World→Heap→Prop} {d:DefRec} {K:Params→PySem.W.Frag} {k:Nat} {cd tb:Addr} {lp:Pos} (hn:l.most=some 63) (hdf:d.params.defaults=[]) (hr:Room k callerA)
    (hY:∀ (w:World) (h:Heap),YP w h→(K w.params).In h) (hT:∀ (w:World) (h:Heap),YP w h→h.get? tb=some (PySem.W.tabObj #[])) (hC:∀ (w:World) (h:Heap),(K w.params).In h→PySem.W.CodeHd h cd tb) (hK:∀ w:World,(K w.params).lookup tb=none)
    (F:∀ (w:World) (mg:Str→Option Value) (fa:Addr) (h:Heap),(K w.params).In h→h.Ns mainGlobals mg→mg d.name=some (.ref fa) →
      ∃ fd:FuncData,(∀ (s:Shared) (u:Value),BindsTo s fd ⟨[u],[]⟩ [("_law_script",u)])∧∀ base:Heap,(K w.params).In base→base.Ns mainGlobals mg→LamB mg base cd tb→FnOk l.prog w (K w.params) mg base (CX1 l.prog w) k fa fd ["_law_script"] (ZaT (K w.params) tb lp)) :
    PySem.W.WalkO q loose XP YP l.row.toRowW d [] (fun f vs=>PySem.call f vs):=by
  refine Att.attach_call hn hdf fun w s₀ s₁ mg mb fa o pm cdv doc a vs ns G Y ho hd hcd hmg hobj hints hlen hg=>?_
  have KX:=hY w _ Y
  obtain ⟨fd,hb,hF⟩:=F w mg fa _ KX G.T.g hmg
  exact ybc (lp:=lp) KX G.T.g G.T.b G.T.builtins G.T.nolimit hg hobj hints (Nat.le_trans hlen (by decide)) hr ⟨hC w _ KX,G.T.bmain⟩ (hT w _ Y) (hK w) hF hb (fun H hO hS=>⟨a,ns,rfl,hlen,hO,hS,rfl,rfl⟩) fun H e s' ⟨_,_,_,_,_,_,_,_,_,_,_,_,_,_,_,z⟩=>z
end SD
end
section
set_option maxHeartbeats 4000000
namespace SD
open PySem PySem.Spec PyProof.Rows L2 L3 M3 MP
noncomputable abbrev qbk:Scope:={kind:=.function,names:=[("want",.cell),("inks",.local),("min",.globalImplicit)],isGenerator:=false,isCoroutine:=false,more:=[]}
noncomputable abbrev ZbO:MDef:=⟨2,2,[.ret (.nearK (.var 0) (.var 1))]⟩
theorem QbL:FnScope ["want","inks"] ["want","inks"] qbk:=⟨rfl,rfl,rfl,by decide,rfl,by decide,by decide⟩
theorem ya6 {x y:MV} {h h':MH} {v:MV} (e:ZO x y h=.ok v h'):∃ w n0 ns vs,x=.f (.int w)∧yb h y=some vs∧yf vs=some (n0::ns)∧h[0]?=some Cell.code∧v=.f (.int (Zm w n0 ns))∧h'=h:=by
  unfold ZO at e
  cases e1:qc x with
  | none=>rw [e1] at e; cases e
  | some w =>
    rw [e1,Zf] at e
    have:=yg e1; subst this
    cases e2:yb h y with
    | none=>rw [e2] at e; cases e
    | some vs =>
      rw [e2,Zf] at e
      cases e3:yf vs with
      | none=>rw [e3] at e; cases e
      | some ns =>
        rw [e3,Zf] at e
        cases ns with
        | nil=>cases e
        | cons n0 ns =>
          simp only at e
          split at e
          next w0=>cases e; exact ⟨w,n0,ns,vs,rfl,rfl,e3,w0,rfl,rfl⟩
          next=>cases e
theorem qba {x y:MV} {h h':MH} {c:String} (e:ZO x y h=.exc c h'):False:=by
  unfold ZO at e
  cases e1:qc x with
  | none=>rw [e1] at e; cases e
  | some w =>
    rw [e1,Zf] at e
    cases e2:yb h y with
    | none=>rw [e2] at e; cases e
    | some vs =>
      rw [e2,Zf] at e
      cases e3:yf vs with
      | none=>rw [e3] at e; cases e
      | some ns =>
        rw [e3,Zf] at e
        cases ns with
        | nil=>cases e
        | cons n0 ns =>
          simp only at e
          split at e
          next w0=>cases e
          next=>cases e
theorem zbI {h:MH} {x:FV}:qg h (.f x) h=.ok (.f x) h:=by
  unfold qg
  rw [if_pos ⟨Nat.le_refl _,fun i c _ e=>.inl e⟩]
  simp
theorem qW {Pm:Prog} {n:Nat} {ms:List MV} {h:MH} {r:R MV} (hd:Pm.defs "nearest_ink"=some ZbO) (e:MP.run Pm (n + 1) "nearest_ink" ms h=r) (hr:r≠.stuck) :
    ∃ m1 w n0 ns vs,ms=[.f (.int w),m1]∧yb h m1=some vs∧yf vs=some (n0::ns)∧h[0]?=some Cell.code∧r=.ok (.f (.int (Zm w n0 ns))) h:=by
  simp only [MP.run,hd,Zf] at e
  split at e
  next hl =>
    match ms,hl with
    | [m0,m1],_ =>
      have e':Zd h ((ZO m0 m1 h).st fun v h1=>.ret v h1)=r:=by
        rw [← e]
        simp [qb]
        cases ZO m0 m1 h <;> rfl
      cases ev:ZO m0 m1 h with
      | stuck=>rw [ev] at e'; exact absurd e'.symm hr
      | exc c h'=>exact (qba ev).elim
      | ok v h' =>
        obtain ⟨w,n0,ns,vs,rfl,e1,e2,e3,rfl,rfl⟩:=ya6 ev
        rw [ev] at e'
        exact ⟨m1,w,n0,ns,vs,rfl,e1,e2,e3,e'.symm.trans zbI⟩
  next=>exact absurd e.symm hr
theorem Zbv {h:MH} (h0:h[0]?=some Cell.code):h.set 0 Cell.code=h:=by
  cases h with
  | nil=>rfl
  | cons c r=>simp at h0; subst h0; rfl
theorem Zbt {ct:Tx} {μ:List Addr} {h:MH} {H H2:Hp} (rel:Rel ct μ h H) (h0:h[0]?=some Cell.code) (nx:za3 H ct.tb ct.lp ct.lq H2):Ext μ h H μ h H2∧Rel ct μ h H2:=by
  rcases nx with rfl | ⟨c',hP,hc,rfl⟩
  · exact ⟨Ext.refl _ _ _,rel⟩
  · have hi:0 < μ.length:=by rw [rel.len]; exact (List.getElem?_eq_some_iff.mp h0).1
    have e0:μ[0]?=some μ[0]:=by simp [hi]
    obtain ⟨eb,_⟩:=rel.cells 0 _ _ e0 h0
    have nc:c'≠ct.tb:=fun z=>by rw [z,hP] at hc; cases hc
    have nl:¬ Liv μ (h.set 0 Cell.code) c':=fun l=>by
      obtain ⟨u,z⟩:=Liv.has rel (Liv.set (h:=h) h0 (fun z=>nomatch z) l)
      rw [hc] at z
      cases z
    have rel1:=rel.new hc (.ext (yae c' ct.lq))
    have ex1:=Ext.new rel hc (.ext (yae c' ct.lq))
    have ex2:=Ext.set rel1 e0 h0 (fun z=>nomatch z) .code (.ext (qA ct.tb ct.lp (some c')))
    have rel2:=rel1.set (c':=.code) (o:=.ext (qA ct.tb ct.lp (some c'))) e0 h0 (fun z=>nomatch z) ⟨eb,.inr ⟨c',by rw [eb]; exact nc,nl,by rw [yd,eb],by rw [Zb (by rw [eb]; exact nc),yd]⟩⟩
    rw [Zbv h0,eb] at ex2 rel2
    exact ⟨ex1.trans ex2,rel2⟩
theorem YbA {K:PySem.W.Frag} {mg:Str→Option Value} {Pm:Prog} {ct:Tx} {st:Stmt} {fa:Addr} {oc kV doc pm ctv:Value} {od an:Option Addr} {osl:Array (Option Value)} {pr pi pm0 pa p1 p2 p3 p4 p5 pk pc:Pos}
    (hbody:Yg st=[.Return (some (ybR (.Name "inks" pi) pm0 pa p1 p2 p3 p4 p5 ct.lp pk pc)) pr]) (hsc:yc st=qbk)
    (lk:K.lookup fa=some ⟨oc,od,.func (PySem.W.fnOf "nearest_ink" "nearest_ink" (yj st) (Yg st) (yc st) .none kV doc pm an (.ref ct.cd) ctv),osl⟩) (hcd:PySem.W.codeIn K (.ref ct.cd) "nearest_ink"=true) (kp:PySem.W.keepIn K (.ref fa)=true) (hmg:mg "nearest_ink"=some (.ref fa))
    (hb:Binds K (PySem.W.fnOf "nearest_ink" "nearest_ink" (yj st) (Yg st) (yc st) .none kV doc pm an (.ref ct.cd) ctv) ["want","inks"] []) (hd:Pm.defs "nearest_ink"=some ZbO) (hmin:mg "min"=none) (habs:mg "abs"=none)
    (hlq:ct.lq=("nearest_ink":Str)++".<locals>."++"<lambda>") (hcd0:ct.cd≠0) (hK:K=ct.K):qaZ K mg Pm ct "nearest_ink" ["want","inks"]:=by
  intro P w base n kb lb
  have L:=lb hcd0
  rw [hbody,hsc] at lk hb
  refine ⟨fa,_,Ya1 (k:=2 * n + 1) (N:=["want","inks"]) lk hcd QbL ?_ fun A outer s H vs Q E hr hsp=>?_,hb,kp,hmg⟩
  · rintro vs H Q E ⟨μ,h,ms,rel,rvs,p⟩
    cases er:MP.run Pm (n + 1) "nearest_ink" ms h with
    | stuck=>rw [er] at p; exact p.elim
    | ok x h'=>obtain ⟨_,_,_,_,_,rfl,_⟩:=qW hd er (fun z=>nomatch z); rw [rvs.length]; rfl
    | exc c h'=>obtain ⟨_,_,_,_,_,rfl,_⟩:=qW hd er (fun z=>nomatch z); rw [rvs.length]; rfl
  · refine ⟨_,ZbM (Zby (YbK (P:=ct.tb) (lp:=ct.lp) (c:=ct.cd) (j:=0) (zbi (i:=1) rfl (.inl rfl)) rfl hmin habs rfl hr.depth rfl L rfl rfl)),?_⟩
    obtain ⟨μ,h,ms,rel,rvs,p⟩:=hsp
    cases er:MP.run Pm (n + 1) "nearest_ink" ms h with
    | stuck=>rw [er] at p; exact p.elim
    | exc c h'=>obtain ⟨_,_,_,_,_,_,_,_,_,z⟩:=qW hd er (fun z=>nomatch z); cases z
    | ok x h' =>
      obtain ⟨m1,wv,n0,ns,us,rfl,e1,e2,e3,z⟩:=qW hd er (fun z=>nomatch z)
      cases z
      rw [er] at p
      obtain ⟨v0,v1,rfl,r0,r1⟩:=qaa rvs
      have:=qj r0; subst this
      obtain ⟨b,a,rfl,stay⟩:=Yab rel e1 r1
      obtain ⟨xs,sq,rxs⟩:=stay μ h H (Ext.refl _ _ _) rel (yZ e1)
      have:=yI e2 rxs; subst this
      have hi:0 < μ.length:=by rw [rel.len]; exact (List.getElem?_eq_some_iff.mp e3).1
      have e0:μ[0]?=some μ[0]:=by simp [hi]
      obtain ⟨eb,tb⟩:=rel.cells 0 _ _ e0 e3
      rw [eb] at tb
      refine ⟨.ref a,rfl,b,a,n0,ns,wv,rfl,by rw [hK]; exact sq,rfl,?_,fun H2 nx=>?_⟩
      · show ZbR H ct.tb ct.lp (("nearest_ink":Str)++".<locals>."++"<lambda>")
        rw [← hlq]
        exact tb.imp id fun ⟨c',n1,_,r⟩=>⟨c',n1,r⟩
      · have nx:za3 H ct.tb ct.lp ct.lq H2:=by rw [hlq]; exact nx
        obtain ⟨ex,rel2⟩:=Zbt rel e3 nx
        exact p μ H2 ex rel2 _ (Qo _)
theorem qbN {K:PySem.W.Frag} {ct:Tx} {Pm:Prog} {n:Nat} {H:Hp} {a:Addr} {ns:List Int} (hK:K=ct.K) (hO:ya4 H ct.tb ct.lp) (hS:SqL K H a (ns.map V.int)) (main:∃ h,MP.run Pm n "law" [.f (.scr ns)] [.code]=.ok (.f (.bl true)) (.code::h)) :
    spR ct (MP.run Pm n "law") [.ref a] H (QT ct.tb ct.lp) fun _ _ _=>False:=by
  subst hK
  refine ⟨[ct.tb],[.code],[.f (.scr ns)],⟨rfl,by simp,fun b hb=>⟨.ext (qA ct.tb ct.lp none),by rw [List.mem_singleton.mp hb]; exact hO.1⟩,fun i b c e1 e2=>?_⟩,RVs.cons ?_ RVs.nil,?_⟩
  · cases i with
    | zero =>
      simp at e1 e2
      subst e1; subst e2
      exact ⟨rfl,.inl hO.1⟩
    | succ i=>simp at e1
  · simp only [RV,RF]
    refine ⟨a,rfl,?_⟩
    rcases hS with (e | ⟨o,e⟩) | e
    · by_cases ha:a=ct.tb
      · rw [ha,hO.1] at e; cases e
      · rcases hO.2 a ha with z | ⟨o,xs,z⟩
        · rw [z] at e; cases e
        · rw [z] at e; cases e
    · refine .inl ⟨fun ⟨i,c,e1,_⟩=>?_,o,e⟩
      cases i with
      | zero =>
        simp at e1
        rw [← e1,hO.1] at e; cases e
      | succ i=>simp at e1
    · exact .inr e
  · obtain ⟨h,e⟩:=main
    rw [e]
    intro μ' H' ex rel v rv
    obtain ⟨ν,rfl⟩:=ex.pre
    obtain ⟨_,tb⟩:=rel.cells 0 ct.tb .code rfl rfl
    exact ⟨YaI rv,tb.elim (fun z=>⟨_,z⟩) fun ⟨c',_,_,z,_⟩=>⟨_,z⟩⟩
theorem ybA {P:Program} {w:World} {K:PySem.W.Frag} {mg:Str→Option Value} {base:Heap} {Pm:Prog} {ct:Tx} {n:Nat} {d:MDef} {N ps:List Str} {st:Stmt} {fa:Addr} {fd:FuncData} (T:Text K mg Pm ct) (kb:K.In base) (lb:LamB mg base ct.cd ct.tb) (F:Fun K "law" "law" st fa fd) (hd:Pm.defs "law"=some d) (hb:zj Pm d N ps st=true)
    (main:∀ ns:List Int,ns.length≤63→∃ h,MP.run Pm (n + 1) "law" [.f (.scr ns)] [.code]=.ok (.f (.bl true)) (.code::h)):FnOk P w K mg base (CX1 P w) (2 * (n + 1)) fa fd ps (ZaT K ct.tb ct.lp) :=
  (qak (ZV T kb (fun _=>lb) n) T.hK F hd hb).imp fun vs H Q E ⟨a,ns,e1,hl,hO,hS,e2,e3⟩=>by
    subst e1; subst e2; subst e3
    exact qbN T.hK hO hS (main ns hl)
theorem near_code {K:PySem.W.Frag} {h:Heap} {f cd tb:Addr} {oc dV kV doc pm ctv:Value} {od an dc:Option Addr} {osl sc:Array (Option Value)} {st:Stmt} {vs:Array Value} {file:Str} {tf:Tok} {fl t:Int} {tg tt:Tok} {b:Bool} (X:K.In h) (_:PySem.W.nsIn K mainGlobals "nearest_ink"=some (some (.ref f)))
    (_:K.lookup f=some ⟨oc,od,.func (PySem.W.fnOf "nearest_ink" "nearest_ink" (yj st) (Yg st) (yc st) dV kV doc pm an (.ref cd) ctv),osl⟩) (lc:K.lookup cd=some ⟨.type "code",dc,.fields vs,sc⟩) (e11:vs[11]?=some (.ref tb)) (e18:vs.getD 18 .none=.str file tf) (e7:vs.getD 7 .none=.int fl tg)
    (e9:vs.getD 9 .none=.bool b) (e10:vs.getD 10 .none=.int t tt) (ne:cd≠tb):PySem.W.CodeHd h cd tb:=by
  have g11:vs.getD 11 .none=.ref tb:=by rw [Array.getD_eq_getD_getElem?,e11]; rfl
  exact ⟨_,vs,file,tf,fl,tg,b,t,tt,X cd _ lc,rfl,rfl,e11,g11,e18,e7,e9,e10,ne⟩
end SD
end
section
namespace MP
open PySem
noncomputable def yG:MDef:=⟨1,1,[.ret (.blt true "tuple" [.comp true (.blt true "tuple" [.var 0]) (.nm 0) "seq" [.var 0] none 1 []])]⟩
noncomputable def QG:MDef:=⟨3,4,[.ite (.cmp .lt (.var 2) (.cI 1)) [.ret (.cS "the greatest number is below 1")] [],.ite (.or [.cmp .eq (.blt true "len" [.var 0]) (.cI 0),.cmp .eq (.blt true "len" [.sub (.var 0) (.cI 0)]) (.cI 0)]) [.ret (.cS "there are no cells")] [],.for_ (.nm 3) "seq" [.var 0] [.ite (.cmp .ne (.blt true "len" [.var 3]) (.blt true "len" [.sub (.var 0) (.cI 0)])) [.ret (.cS "the rows' lengths differ")] [],.ite (.or [.cmp .lt (.blt true "min" [.var 3]) (.var 1),.cmp .gt (.blt true "max" [.var 3]) (.var 2)]) [.ret (.cS "a number is below the least or above the greatest")] []],.ret (.cN)]⟩
noncomputable def d_cells_by_rows:MDef:=⟨2,4,[.set (.nm 2) (.lst false []),.for_ (.nm 3) "range" [.var 0] [.expr (.lm "extend" (.var 2) [.comp true (.tup [.var 1,.var 0]) (.nm 0) "range" [.var 1] none 1 [3]])],.ret (.var 2)]⟩
noncomputable def Zk:MDef:=⟨3,5,[.set (.nm 3) (.call "own_rows" [.var 2]),.set (.nm 4) (.call "fault_of" [.var 3,.cI 0,.var 1]),.ite (.notN (.var 4)) [.raise "NoPicture" [.var 4]] [],.setFld (.var 0) "most" (.var 1),.setFld (.var 0) "rows" (.var 3)]⟩
noncomputable def qaA:MDef:=⟨1,1,[.ret (.blt true "len" [.fld (.var 0) "rows"])]⟩
noncomputable def Zaz:MDef:=⟨1,1,[.ret (.blt true "len" [.sub (.fld (.var 0) "rows") (.cI 0)])]⟩
noncomputable def d_size_of:MDef:=⟨1,1,[.ret (.tup [.call "high" [.var 0],.call "wide" [.var 0]])]⟩
noncomputable def QE:MDef:=⟨2,2,[.ret (.and [.chain .le .lt (.cI 0) (.sub (.var 1) (.cI 0)) (.call "high" [.var 0]),.chain .le .lt (.cI 0) (.sub (.var 1) (.cI 1)) (.call "wide" [.var 0])])]⟩
noncomputable def Zy:MDef:=⟨2,2,[.ite (.not (.call "has_cell" [.var 0,.var 1])) [.raise "OutOfPicture" [.cS "the picture has no such cell"]] []]⟩
noncomputable def d_shade_at:MDef:=⟨2,2,[.expr (.call "ask_cell" [.var 0,.var 1]),.ret (.sub (.sub (.fld (.var 0) "rows") (.sub (.var 1) (.cI 0))) (.sub (.var 1) (.cI 1)))]⟩
noncomputable def Yt:MDef:=⟨2,5,[.set (.nm 2) (.comp false (.blt false "list" [.var 0]) (.nm 0) "seq" [.fld (.var 0) "rows"] none 1 []),.for_ (.tp [.nm 3,.nm 4]) "seq" [.var 1] [.setSub (.sub (.var 2) (.sub (.var 3) (.cI 0))) (.sub (.var 3) (.cI 1)) (.var 4)],.ret (.make true "Picture" [.fld (.var 0) "most",.frz (.var 2)])]⟩
noncomputable def d_laid_out:MDef:=⟨3,3,[.ret (.call "with_shades" [.make true "Picture" [.var 0,.bin true .mul (.lst true [.bin true .mul (.lst true [.cI 0]) (.sub (.var 1) (.cI 1))]) (.sub (.var 1) (.cI 0))],.var 2])]⟩
noncomputable def d_ask_inks:MDef:=⟨2,2,[.expr (.call "ask_rising" [.var 0]),.ite (.cmp .ne (.sub (.var 0) (.neg (.cI 1))) (.var 1)) [.raise "NoInks" [.cS "the last ink is not the most"]] []]⟩
noncomputable def d_ask_rising:MDef:=⟨1,3,[.ite (.cmp .lt (.blt true "len" [.var 0]) (.cI 2)) [.raise "NoInks" [.cS "there are fewer than two inks"]] [],.ite (.cmp .ne (.sub (.var 0) (.cI 0)) (.cI 0)) [.raise "NoInks" [.cS "the first ink is not 0"]] [],.for_ (.tp [.nm 1,.nm 2]) "zip" [.slice true (.var 0) none (some (.neg (.cI 1))),.slice true (.var 0) (some (.cI 1)) none] [.ite (.cmp .ge (.var 1) (.var 2)) [.raise "NoInks" [.cS "the inks do not rise strictly"]] []]]⟩
noncomputable def d_ask_shares:MDef:=⟨1,1,[.ite (.or [.cmp .lt (.blt true "sum" [.var 0]) (.cI 1),.cmp .lt (.blt true "min" [.var 0]) (.cI 0)]) [.raise "NoShares" [.cS "there is nothing to share by, or a share is below 0"]] []]⟩
noncomputable def d_dots_of:MDef:=⟨2,2,[.ret (.call "laid_out" [.fld (.var 0) "most",.call "size_of" [.var 0],.comp true (.tup [.var 0,.var 2]) (.tp [.nm 0,.nm 1,.nm 2,.nm 3,.nm 4]) "seq" [.var 1] none 5 []])]⟩
noncomputable def d_entry_of:MDef:=⟨5,7,[.set (.nm 5) (.bin true .fdiv (.var 2) (.var 3)),.set (.nm 6) (.call "nearest_ink" [.bin true .add (.var 1) (.var 5),.var 4]),.ret (.tup [.var 0,.var 5,.var 6,.bin true .sub (.bin true .add (.var 1) (.var 5)) (.var 6),.bin true .mod (.var 2) (.var 3)])]⟩
noncomputable def d_nearest_ink:MDef:=⟨2,2,[.ret (.nearK (.var 0) (.var 1))]⟩
noncomputable def d_ask_around:MDef:=⟨1,4,[.for_ (.tp [.nm 1,.nm 2,.nm 3]) "seq" [.var 0] [.ite (.or [.cmp .lt (.var 1) (.cI 0),.and [.cmp .eq (.var 1) (.cI 0),.cmp .lt (.var 2) (.cI 1)]]) [.raise "NoShares" [.cS "a share goes to a cell that is not behind"]] []],.expr (.call "ask_shares" [.comp true (.var 2) (.tp [.nm 0,.nm 1,.nm 2]) "seq" [.var 0] none 3 []])]⟩
noncomputable def d_spread_on:MDef:=⟨3,11,[.expr (.call "ask_around" [.var 1]),.expr (.call "ask_inks" [.var 2,.fld (.var 0) "most"]),.set (.nm 3) (.call "size_of" [.var 0]),.set (.nm 4) (.blt true "sum" [.comp true (.var 2) (.tp [.nm 0,.nm 1,.nm 2]) "seq" [.var 1] none 3 []]),.set (.nm 5) (.lst false []),.set (.nm 6) (.dNew),.set (.nm 7) (.cI 0),.for_ (.nm 8) "seq" [.frz (.call "cells_by_rows" [.sub (.var 3) (.cI 0),.sub (.var 3) (.cI 1)])] [.set (.nm 9) (.bin true .add (.var 7) (.call "due_from" [.var 6,.var 8,.var 1])),.set (.nm 10) (.call "entry_of" [.var 8,.call "shade_at" [.var 0,.var 8],.var 9,.var 4,.var 2]),.expr (.lm "append" (.var 5) [.var 10]),.putD (.var 6) (.var 8) (.sub (.var 10) (.glob "LEFT")),.set (.nm 7) (.sub (.var 10) (.glob "ODD"))],.ret (.tup [.call "dots_of" [.var 0,.frz (.var 5)],.var 7])]⟩
noncomputable def d_due_from:MDef:=⟨3,3,[.ret (.blt true "sum" [.comp true (.bin true .mul (.var 2) (.dGet (.var 3) (.tup [.bin true .sub (.sub (.var 4) (.cI 0)) (.var 0),.bin true .sub (.sub (.var 4) (.cI 1)) (.var 1)]) (.cI 0))) (.tp [.nm 0,.nm 1,.nm 2]) "seq" [.var 2] none 3 [0,1]])]⟩
noncomputable def zA:MDef:=⟨2,4,[.setSub (.var 1) (.cI 0) (.bin true .add (.sub (.var 1) (.cI 0)) (.cI 1)),.set (.nm 2) (.ite (.cmp .gt (.blt true "len" [.var 0]) (.cI 0)) (.sub (.var 0) (.bin true .mod (.sub (.var 1) (.cI 0)) (.blt true "len" [.var 0]))) (.cI 0)),.set (.nm 3) (.bin true .mod (.bin true .mul (.bin true .add (.bin true .add (.bin true .mod (.var 2) (.cI 2147483647)) (.bin true .mul (.bin true .mul (.sub (.var 1) (.cI 0)) (.sub (.var 1) (.cI 0))) (.cI 7919))) (.cI 11)) (.cI 48271)) (.cI 2147483647)),.ret (.bin true .mod (.bin true .mul (.var 3) (.var 3)) (.cI 1999999973))]⟩
noncomputable def d__law_great:MDef:=⟨3,5,[.set (.nm 3) (.call "_law_next" [.var 0,.var 1]),.set (.nm 4) (.ite (.cmp .gt (.blt true "len" [.var 0]) (.cI 0)) (.sub (.var 0) (.bin true .mod (.sub (.var 1) (.cI 0)) (.blt true "len" [.var 0]))) (.cI 0)),.ite (.cmp .gt (.bin true .mod (.var 3) (.cI 5)) (.cI 0)) [.ret (.bin true .mod (.bin true .fdiv (.var 3) (.cI 5)) (.var 2))] [],.ret (.bin true .mod (.bin true .add (.bin true .mod (.var 4) (.bin true .pow (.cI 10) (.cI 25))) (.bin true .mul (.var 3) (.bin true .pow (.cI 10) (.cI 14)))) (.bin true .pow (.cI 10) (.cI 25)))]⟩
noncomputable def d__law_shades:MDef:=⟨5,11,[.set (.nm 5) (.call "_law_next" [.var 0,.var 1]),.set (.nm 6) (.lst true [.cI 0,.var 2,.bin true .fdiv (.var 2) (.cI 2),.bin true .mod (.bin true .fdiv (.var 5) (.cI 3)) (.bin true .add (.var 2) (.cI 1))]),.set (.nm 7) (.lst false []),.for_ (.nm 8) "range" [.var 3] [.set (.nm 9) (.lst false []),.for_ (.nm 10) "range" [.var 4] [.ite (.cmp .eq (.bin true .mod (.var 5) (.cI 3)) (.cI 0)) [.expr (.lm "append" (.var 9) [.sub (.var 6) (.cI 3)])] [.ite (.cmp .eq (.bin true .mod (.var 5) (.cI 3)) (.cI 1)) [.expr (.lm "append" (.var 9) [.sub (.var 6) (.bin true .mod (.call "_law_next" [.var 0,.var 1]) (.cI 4))])] [.expr (.lm "append" (.var 9) [.bin true .mod (.bin true .add (.bin true .mul (.call "_law_next" [.var 0,.var 1]) (.cI 7919)) (.var 5)) (.bin true .add (.var 2) (.cI 1))])]]],.expr (.lm "append" (.var 7) [.var 9])],.ret (.var 7)]⟩
noncomputable def d__law_most:MDef:=⟨2,3,[.set (.nm 2) (.call "_law_next" [.var 0,.var 1]),.ret (.sub (.lst true [.cI 1,.cI 2,.cI 3,.cI 255,.cI 9,.bin true .add (.cI 1) (.bin true .mod (.bin true .fdiv (.var 2) (.cI 7)) (.cI 40)),.bin true .add (.bin true .add (.cI 1) (.call "_law_great" [.var 0,.var 1,.cI 999])) (.bin true .pow (.cI 10) (.cI 24))]) (.bin true .mod (.var 2) (.cI 7)))]⟩
noncomputable def d__law_inks:MDef:=⟨3,7,[.set (.nm 3) (.call "_law_next" [.var 0,.var 1]),.set (.nm 4) (.dset2 (.cI 0) (.var 2)),.for_ (.nm 5) "range" [.bin true .mod (.var 3) (.cI 5)] [.set (.nm 6) (.call "_law_next" [.var 0,.var 1]),.putT (.var 4) (.sub (.lst true [.bin true .mod (.bin true .mul (.var 6) (.cI 7919)) (.bin true .add (.var 2) (.cI 1)),.bin true .fdiv (.var 2) (.cI 2),.bin true .fdiv (.var 2) (.bin true .add (.var 5) (.cI 2))]) (.bin true .mod (.var 6) (.cI 3)))],.ret (.frz (.srtK (.var 4)))]⟩
noncomputable def d__law_size:MDef:=⟨3,6,[.set (.nm 3) (.call "_law_next" [.var 0,.var 1]),.set (.nm 4) (.sub (.lst true [.cI 1,.cI 2,.cI 3,.cI 5,.cI 8,.bin true .add (.cI 1) (.bin true .mod (.bin true .fdiv (.var 3) (.cI 6)) (.cI 12))]) (.bin true .mod (.var 3) (.cI 6))),.set (.nm 5) (.bin true .add (.cI 1) (.bin true .mod (.bin true .fdiv (.var 3) (.cI 100)) (.blt true "max" [.cI 1,.bin true .fdiv (.var 2) (.var 4)]))),.ite (.cmp .eq (.bin true .mod (.bin true .fdiv (.var 3) (.cI 7000)) (.cI 2)) (.cI 0)) [.ret (.tup [.var 5,.var 4])] [],.ret (.tup [.var 4,.var 5])]⟩
noncomputable def d__law_half:MDef:=⟨1,1,[.ret (.bin true .fdiv (.blt true "max" [.comp true (.bin true .sub (.sub (.var 1) (.bin true .add (.var 0) (.cI 1))) (.sub (.var 1) (.var 0))) (.nm 0) "range" [.bin true .sub (.blt true "len" [.var 0]) (.cI 1)] none 1 [0]]) (.cI 2))]⟩
noncomputable def d__law_plain_case:MDef:=⟨2,10,[.set (.nm 2) (.call "_law_most" [.var 0,.var 1]),.set (.nm 3) (.call "_law_size" [.var 0,.var 1,.cI 60]),.set (.nm 4) (.call "_law_shades" [.var 0,.var 1,.var 2,.sub (.var 3) (.cI 0),.sub (.var 3) (.cI 1)]),.set (.nm 5) (.call "_law_inks" [.var 0,.var 1,.var 2]),.for_ (.nm 6) "range" [.bin true .mod (.call "_law_next" [.var 0,.var 1]) (.cI 6)] [.set (.nm 7) (.call "_law_next" [.var 0,.var 1]),.set (.nm 8) (.bin true .mod (.var 7) (.bin true .sub (.blt true "len" [.var 5]) (.cI 1))),.set (.nm 9) (.bin true .sub (.bin true .add (.bin true .fdiv (.bin true .add (.sub (.var 5) (.var 8)) (.sub (.var 5) (.bin true .add (.var 8) (.cI 1)))) (.cI 2)) (.bin true .mod (.bin true .fdiv (.var 7) (.cI 100)) (.cI 3))) (.cI 1)),.setSub (.sub (.var 4) (.bin true .mod (.bin true .fdiv (.var 7) (.cI 300)) (.sub (.var 3) (.cI 0)))) (.bin true .mod (.bin true .fdiv (.var 7) (.cI 20000)) (.sub (.var 3) (.cI 1))) (.blt true "max" [.cI 0,.blt true "min" [.var 2,.var 9]])],.ret (.tup [.var 2,.frz (.var 4),.var 5])]⟩
noncomputable def d__law_around:MDef:=⟨2,8,[.set (.nm 2) (.lst false []),.for_ (.nm 3) "range" [.sub (.lst true [.cI 1,.cI 2,.cI 4,.cI 6]) (.bin true .mod (.call "_law_next" [.var 0,.var 1]) (.cI 4))] [.set (.nm 4) (.call "_law_next" [.var 0,.var 1]),.set (.nm 5) (.sub (.lst true [.cI 0,.cI 1,.cI 1,.cI 2,.cI 3]) (.bin true .mod (.var 4) (.cI 5))),.set (.nm 6) (.bin true .sub (.bin true .mod (.bin true .fdiv (.var 4) (.cI 5)) (.cI 7)) (.cI 3)),.ite (.cmp .eq (.var 5) (.cI 0)) [.set (.nm 6) (.bin true .add (.cI 1) (.bin true .mod (.bin true .fdiv (.var 4) (.cI 5)) (.cI 3)))] [],.set (.nm 7) (.sub (.lst true [.cI 7,.cI 3,.cI 5,.cI 1,.cI 0,.cI 2]) (.bin true .mod (.bin true .fdiv (.var 4) (.cI 35)) (.cI 6))),.ite (.cmp .eq (.bin true .mod (.bin true .fdiv (.var 4) (.cI 300)) (.cI 7)) (.cI 0)) [.set (.nm 7) (.call "_law_great" [.var 0,.var 1,.cI 50])] [],.ite (.cmp .eq (.bin true .mod (.bin true .fdiv (.var 4) (.cI 12600)) (.cI 9)) (.cI 0)) [.set (.nm 5) (.bin true .add (.cI 1) (.call "_law_great" [.var 0,.var 1,.cI 70]))] [],.expr (.lm "append" (.var 2) [.tup [.var 5,.var 6,.var 7]]),.ite (.cmp .eq (.bin true .mod (.bin true .fdiv (.var 4) (.cI 2100)) (.cI 6)) (.cI 0)) [.expr (.lm "append" (.var 2) [.tup [.var 5,.var 6,.var 7]])] []],.ite (.cmp .eq (.blt true "sum" [.comp true (.var 2) (.tp [.nm 0,.nm 1,.nm 2]) "seq" [.var 2] none 3 []]) (.cI 0)) [.expr (.lm "append" (.var 2) [.tup [.cI 1,.cI 0,.bin true .add (.cI 1) (.bin true .mod (.call "_law_next" [.var 0,.var 1]) (.cI 9))]])] [],.ret (.frz (.var 2))]⟩
noncomputable def d__law_lefts:MDef:=⟨3,12,[.set (.nm 3) (.dNew),.set (.nm 4) (.cI 0),.set (.nm 5) (.blt true "sum" [.comp true (.var 2) (.tp [.nm 0,.nm 1,.nm 2]) "seq" [.var 2] none 3 []]),.for_ (.nm 6) "range" [.blt true "len" [.var 0]] [.for_ (.nm 7) "range" [.blt true "len" [.sub (.var 0) (.cI 0)]] [.set (.nm 8) (.var 4),.for_ (.tp [.nm 9,.nm 10,.nm 11]) "seq" [.var 2] [.set (.nm 8) (.bin true .add (.var 8) (.bin true .mul (.var 11) (.dGet (.var 3) (.tup [.bin true .sub (.var 6) (.var 9),.bin true .sub (.var 7) (.var 10)]) (.cI 0))))],.set (.nm 4) (.bin true .sub (.var 8) (.bin true .mul (.bin true .fdiv (.var 8) (.var 5)) (.var 5))),.putD (.var 3) (.tup [.var 6,.var 7]) (.bin true .sub (.bin true .add (.sub (.sub (.var 0) (.var 6)) (.var 7)) (.bin true .fdiv (.var 8) (.var 5))) (.sub (.sub (.var 1) (.var 6)) (.var 7)))]],.ret (.frzT (.var 3))]⟩
noncomputable def d__law_lost:MDef:=⟨3,9,[.set (.nm 3) (.cI 0),.for_ (.tp [.nm 4,.nm 5]) "keys" [.var 1] [.for_ (.tp [.nm 6,.nm 7,.nm 8]) "seq" [.var 2] [.ite (.or [.cmp .ge (.bin true .add (.var 4) (.var 6)) (.blt true "len" [.var 0]),.not (.chain .le .lt (.cI 0) (.bin true .add (.var 5) (.var 7)) (.blt true "len" [.sub (.var 0) (.cI 0)]))]) [.set (.nm 3) (.bin true .add (.var 3) (.bin true .mul (.var 8) (.dSub (.var 1) (.tup [.var 4,.var 5]))))] []]],.ret (.var 3)]⟩
noncomputable def d_law:MDef:=⟨1,14,[.set (.nm 1) (.lst false [.cI 0]),.set (.tp [.nm 2,.nm 3,.nm 4]) (.call "_law_plain_case" [.var 0,.var 1]),.set (.nm 5) (.call "_law_around" [.var 0,.var 1]),.set (.tp [.nm 6,.nm 7]) (.call "spread_on" [.make true "Picture" [.var 2,.var 3],.var 5,.var 4]),.set (.nm 8) (.blt true "sum" [.comp true (.var 2) (.tp [.nm 0,.nm 1,.nm 2]) "seq" [.var 5] none 3 []]),.set (.nm 9) (.call "_law_half" [.var 4]),.set (.nm 10) (.call "_law_lefts" [.var 3,.fld (.var 6) "rows",.var 5]),.for_ (.tp [.nm 11,.nm 12]) "keys" [.var 10] [.ite (.or [.cmp .nin (.sub (.sub (.fld (.var 6) "rows") (.var 11)) (.var 12)) (.var 4),.not (.chain .le .le (.neg (.var 9)) (.dSub (.var 10) (.tup [.var 11,.var 12])) (.var 9))]) [.ret (.cB false)] []],.ite (.or [.not (.isI (.var 7) "int"),.isI (.var 7) "bool",.not (.chain .le .lt (.cI 0) (.var 7) (.var 8))]) [.ret (.cB false)] [],.set (.nm 13) (.bin true .sub (.blt true "sum" [.comp true (.blt true "sum" [.var 0]) (.nm 0) "seq" [.var 3] none 1 []]) (.blt true "sum" [.comp true (.blt true "sum" [.var 0]) (.nm 0) "seq" [.fld (.var 6) "rows"] none 1 []])),.ret (.cmp .eq (.bin true .mul (.var 8) (.var 13)) (.bin true .add (.var 7) (.call "_law_lost" [.var 3,.var 10,.var 5])))]⟩
noncomputable def prog:Prog where
  defs:=fun f=>match f with
    | "own_rows"=>some yG
    | "fault_of"=>some QG
    | "cells_by_rows"=>some d_cells_by_rows
    | "Picture.__init__"=>some Zk
    | "high"=>some qaA
    | "wide"=>some Zaz
    | "size_of"=>some d_size_of
    | "has_cell"=>some QE
    | "ask_cell"=>some Zy
    | "shade_at"=>some d_shade_at
    | "with_shades"=>some Yt
    | "laid_out"=>some d_laid_out
    | "ask_inks"=>some d_ask_inks
    | "ask_rising"=>some d_ask_rising
    | "ask_shares"=>some d_ask_shares
    | "dots_of"=>some d_dots_of
    | "entry_of"=>some d_entry_of
    | "nearest_ink"=>some d_nearest_ink
    | "ask_around"=>some d_ask_around
    | "spread_on"=>some d_spread_on
    | "due_from"=>some d_due_from
    | "_law_next"=>some zA
    | "_law_great"=>some d__law_great
    | "_law_shades"=>some d__law_shades
    | "_law_most"=>some d__law_most
    | "_law_inks"=>some d__law_inks
    | "_law_size"=>some d__law_size
    | "_law_half"=>some d__law_half
    | "_law_plain_case"=>some d__law_plain_case
    | "_law_around"=>some d__law_around
    | "_law_lefts"=>some d__law_lefts
    | "_law_lost"=>some d__law_lost
    | "law"=>some d_law
    | _=>none
  globs:=fun x=>match x with
    | "LEFT"=>some (.int 3)
    | "ODD"=>some (.int 4)
    | _=>none
  meths:=fun c m=>match c,m with
    | "Picture","__init__"=>some "Picture.__init__"
    | _,_=>none
  subs:=fun c d=>match c,d with
    | "Picture","Picture"=>some true
    | "Picture","dict"=>some false
    | "Picture","list"=>some false
    | "Picture","tuple"=>some false
    | "Picture","str"=>some false
    | "Picture","int"=>some false
    | "Picture","bool"=>some false
    | _,_=>none
  fok:=fun c n=>match c,n with
    | "Picture","most"=>true
    | "Picture","rows"=>true
    | _,_=>false
  word:=fun w c=>match w,c with
    | _,_=>none
  words:=fun w=>match w with
    | _=>false
  excs:=fun c=>match c with
    | "NoPicture"=>true
    | "OutOfPicture"=>true
    | "NoInks"=>true
    | "NoShares"=>true
    | _=>false
  turns:=1000000
@[simp] theorem YbL:prog.defs "own_rows"=some yG:=rfl
@[simp] theorem zbG:prog.defs "fault_of"=some QG:=rfl
@[simp] theorem ZX:prog.defs "cells_by_rows"=some d_cells_by_rows:=rfl
@[simp] theorem YaK:prog.defs "Picture.__init__"=some Zk:=rfl
@[simp] theorem p_d_high:prog.defs "high"=some qaA:=rfl
@[simp] theorem p_d_wide:prog.defs "wide"=some Zaz:=rfl
@[simp] theorem qaP:prog.defs "size_of"=some d_size_of:=rfl
@[simp] theorem zbC:prog.defs "has_cell"=some QE:=rfl
@[simp] theorem Ybz:prog.defs "ask_cell"=some Zy:=rfl
@[simp] theorem YaA:prog.defs "shade_at"=some d_shade_at:=rfl
@[simp] theorem y9:prog.defs "with_shades"=some Yt:=rfl
@[simp] theorem qay:prog.defs "laid_out"=some d_laid_out:=rfl
@[simp] theorem zaw:prog.defs "ask_inks"=some d_ask_inks:=rfl
@[simp] theorem qal:prog.defs "ask_rising"=some d_ask_rising:=rfl
@[simp] theorem Yac:prog.defs "ask_shares"=some d_ask_shares:=rfl
@[simp] theorem QaQ:prog.defs "dots_of"=some d_dots_of:=rfl
@[simp] theorem QaB:prog.defs "entry_of"=some d_entry_of:=rfl
@[simp] theorem Q9:prog.defs "nearest_ink"=some d_nearest_ink:=rfl
@[simp] theorem Zah:prog.defs "ask_around"=some d_ask_around:=rfl
@[simp] theorem Qan:prog.defs "spread_on"=some d_spread_on:=rfl
@[simp] theorem Qaw:prog.defs "due_from"=some d_due_from:=rfl
@[simp] theorem qao:prog.defs "_law_next"=some zA:=rfl
@[simp] theorem yal:prog.defs "_law_great"=some d__law_great:=rfl
@[simp] theorem Y8:prog.defs "_law_shades"=some d__law_shades:=rfl
@[simp] theorem zan:prog.defs "_law_most"=some d__law_most:=rfl
@[simp] theorem yam:prog.defs "_law_inks"=some d__law_inks:=rfl
@[simp] theorem Yan:prog.defs "_law_size"=some d__law_size:=rfl
@[simp] theorem yao:prog.defs "_law_half"=some d__law_half:=rfl
@[simp] theorem yN:prog.defs "_law_plain_case"=some d__law_plain_case:=rfl
@[simp] theorem Z8:prog.defs "_law_around"=some d__law_around:=rfl
@[simp] theorem yac:prog.defs "_law_lefts"=some d__law_lefts:=rfl
@[simp] theorem Zao:prog.defs "_law_lost"=some d__law_lost:=rfl
@[simp] theorem YbG:prog.defs "law"=some d_law:=rfl
@[simp] theorem Zbq:prog.fok "Picture" "most"=true:=rfl
@[simp] theorem Ybs:prog.fok "Picture" "rows"=true:=rfl
@[simp] theorem Qa1:prog.subs "Picture" "Picture"=some true:=rfl
@[simp] theorem ZaX:prog.meths "Picture" "__init__"=some "Picture.__init__":=rfl
@[simp] theorem g_LEFT:prog.globs "LEFT"=some (.int 3):=rfl
@[simp] theorem g_ODD:prog.globs "ODD"=some (.int 4):=rfl
theorem Yb (n:Nat) (f:String) (as:List MV) (h:MH):run prog (n + 1) f as h=opt (prog.defs f) fun d=>if as.length=d.np then Zd h (qb prog (run prog n) d.body (as.map some++List.replicate (d.ns - d.np) none) h) else .stuck:=rfl
theorem ZU (n:Nat) (a0 a1:MV) (h:MH):run prog (n + 1) "cells_by_rows" [a0,a1] h=Zd h (qb prog (run prog n) d_cells_by_rows.body [some a0,some a1,none,none] h):=by rw [Yb,ZX]; rfl
theorem qaL (n:Nat) (a0:MV) (h:MH):run prog (n + 1) "size_of" [a0] h=Zd h (qb prog (run prog n) d_size_of.body [some a0] h):=by rw [Yb,qaP]; rfl
theorem yaD (n:Nat) (a0 a1:MV) (h:MH):run prog (n + 1) "shade_at" [a0,a1] h=Zd h (qb prog (run prog n) d_shade_at.body [some a0,some a1] h):=by rw [Yb,YaA]; rfl
theorem zaE (n:Nat) (a0 a1 a2:MV) (h:MH):run prog (n + 1) "laid_out" [a0,a1,a2] h=Zd h (qb prog (run prog n) d_laid_out.body [some a0,some a1,some a2] h):=by rw [Yb,qay]; rfl
theorem qau (n:Nat) (a0 a1:MV) (h:MH):run prog (n + 1) "ask_inks" [a0,a1] h=Zd h (qb prog (run prog n) d_ask_inks.body [some a0,some a1] h):=by rw [Yb,zaw]; rfl
theorem zak (n:Nat) (a0:MV) (h:MH):run prog (n + 1) "ask_rising" [a0] h=Zd h (qb prog (run prog n) d_ask_rising.body [some a0,none,none] h):=by rw [Yb,qal]; rfl
theorem Qai (n:Nat) (a0:MV) (h:MH):run prog (n + 1) "ask_shares" [a0] h=Zd h (qb prog (run prog n) d_ask_shares.body [some a0] h):=by rw [Yb,Yac]; rfl
theorem QaL (n:Nat) (a0 a1:MV) (h:MH):run prog (n + 1) "dots_of" [a0,a1] h=Zd h (qb prog (run prog n) d_dots_of.body [some a0,some a1] h):=by rw [Yb,QaQ]; rfl
theorem YaF (n:Nat) (a0 a1 a2 a3 a4:MV) (h:MH):run prog (n + 1) "entry_of" [a0,a1,a2,a3,a4] h=Zd h (qb prog (run prog n) d_entry_of.body [some a0,some a1,some a2,some a3,some a4,none,none] h):=by rw [Yb,QaB]; rfl
theorem Q7 (n:Nat) (a0 a1:MV) (h:MH):run prog (n + 1) "nearest_ink" [a0,a1] h=Zd h (qb prog (run prog n) d_nearest_ink.body [some a0,some a1] h):=by rw [Yb,Q9]; rfl
theorem Qad (n:Nat) (a0:MV) (h:MH):run prog (n + 1) "ask_around" [a0] h=Zd h (qb prog (run prog n) d_ask_around.body [some a0,none,none,none] h):=by rw [Yb,Zah]; rfl
theorem Qal (n:Nat) (a0 a1 a2:MV) (h:MH):run prog (n + 1) "spread_on" [a0,a1,a2] h=Zd h (qb prog (run prog n) d_spread_on.body [some a0,some a1,some a2,none,none,none,none,none,none,none,none] h):=by rw [Yb,Qan]; rfl
theorem QaC (n:Nat) (a0 a1 a2:MV) (h:MH):run prog (n + 1) "due_from" [a0,a1,a2] h=Zd h (qb prog (run prog n) d_due_from.body [some a0,some a1,some a2] h):=by rw [Yb,Qaw]; rfl
theorem Zac (n:Nat) (a0 a1 a2:MV) (h:MH):run prog (n + 1) "_law_great" [a0,a1,a2] h=Zd h (qb prog (run prog n) d__law_great.body [some a0,some a1,some a2,none,none] h):=by rw [Yb,yal]; rfl
theorem yaa (n:Nat) (a0 a1 a2 a3 a4:MV) (h:MH):run prog (n + 1) "_law_shades" [a0,a1,a2,a3,a4] h=Zd h (qb prog (run prog n) d__law_shades.body [some a0,some a1,some a2,some a3,some a4,none,none,none,none,none,none] h):=by rw [Yb,Y8]; rfl
theorem yap (n:Nat) (a0 a1:MV) (h:MH):run prog (n + 1) "_law_most" [a0,a1] h=Zd h (qb prog (run prog n) d__law_most.body [some a0,some a1,none] h):=by rw [Yb,zan]; rfl
theorem qan (n:Nat) (a0 a1 a2:MV) (h:MH):run prog (n + 1) "_law_inks" [a0,a1,a2] h=Zd h (qb prog (run prog n) d__law_inks.body [some a0,some a1,some a2,none,none,none,none] h):=by rw [Yb,yam]; rfl
theorem YO (n:Nat) (a0 a1 a2:MV) (h:MH):run prog (n + 1) "_law_size" [a0,a1,a2] h=Zd h (qb prog (run prog n) d__law_size.body [some a0,some a1,some a2,none,none,none] h):=by rw [Yb,Yan]; rfl
theorem zap (n:Nat) (a0:MV) (h:MH):run prog (n + 1) "_law_half" [a0] h=Zd h (qb prog (run prog n) d__law_half.body [some a0] h):=by rw [Yb,yao]; rfl
theorem ZN (n:Nat) (a0 a1:MV) (h:MH):run prog (n + 1) "_law_plain_case" [a0,a1] h=Zd h (qb prog (run prog n) d__law_plain_case.body [some a0,some a1,none,none,none,none,none,none,none,none] h):=by rw [Yb,yN]; rfl
theorem Yaa (n:Nat) (a0 a1:MV) (h:MH):run prog (n + 1) "_law_around" [a0,a1] h=Zd h (qb prog (run prog n) d__law_around.body [some a0,some a1,none,none,none,none,none,none] h):=by rw [Yb,Z8]; rfl
theorem qaf (n:Nat) (a0 a1 a2:MV) (h:MH):run prog (n + 1) "_law_lefts" [a0,a1,a2] h=Zd h (qb prog (run prog n) d__law_lefts.body [some a0,some a1,some a2,none,none,none,none,none,none,none,none,none] h):=by rw [Yb,yac]; rfl
theorem Yam (n:Nat) (a0 a1 a2:MV) (h:MH):run prog (n + 1) "_law_lost" [a0,a1,a2] h=Zd h (qb prog (run prog n) d__law_lost.body [some a0,some a1,some a2,none,none,none,none,none,none] h):=by rw [Yb,Zao]; rfl
theorem zbH (n:Nat) (a0:MV) (h:MH):run prog (n + 1) "law" [a0] h=Zd h (qb prog (run prog n) d_law.body [some a0,none,none,none,none,none,none,none,none,none,none,none,none,none] h):=by rw [Yb,YbG]; rfl
noncomputable def Qa (b:Bool) (r:List Int):FV:=sq b (r.map .int)
noncomputable def Yd (b1 b2:Bool) (rows:List (List Int)):FV:=sq b1 (rows.map (Qa b2))
noncomputable def Zn (most:Int) (rows:List (List Int)):FV:=.obj "Picture" ["most","rows"] [.int most,Yd true true rows]
structure Good (most:Int) (rows:List (List Int)):Prop where
  m1:1≤most
  ne:rows≠[]
  len:∃ n:Nat,0 < n∧∀ r∈rows,r.length=n
  sh:∀ r∈rows,∀ v∈r,0≤v∧v≤most
  sz:rows.length≤1000
theorem yi:sizeL=4194304:=rfl
section
variable (h:MH)
theorem TrOk.obj (c:String) (fs:List (String×FV)) (ds:MH):TrOk (h++[.obj c []]) (h++.obj c (fs.map fun p=>(p.1,MV.f p.2))::ds):=by
  refine ⟨by simp,fun i d hi e=>?_⟩
  by_cases hl:i < h.length
  · rw [List.getElem?_append_left hl] at e ⊢; exact .inl e
  · have:i=h.length:=by simp at hi; omega
    subst this
    simp at e; subst e
    exact .inr ⟨fs,rfl⟩
end
noncomputable def yr (rows:List (List Int)) (i j:Nat) (v:Int):List (List Int):=rows.modify i (·.set j v)
noncomputable def zO (r:List Int):Cell:=.lst (r.map fun i=>.f (.int i))
section
variable (h:MH)
theorem zat (bd:MV→MSt→MH→R (Option MV×MSt)) (e:List Int→MV) (hb:∀ r z h,∃ z',bd (e r) [z] h=.ok (some (.ref h.length),[z']) (h++[zO r])):∀ (rows:List (List Int)) (acc:List MV) (z:Option MV) (h:MH),acc.length + rows.length≤sizeL →
    Qn [] bd (rows.map e) acc [z] h=.ok (acc++(List.range rows.length).map fun i=>MV.ref (h.length + i)) (h++rows.map zO)
  | [],acc,z,h,_=>by simp [Qn]
  | r::rows,acc,z,h,hl=>by
    obtain ⟨z',e1⟩:=hb r z h
    simp only [List.length_cons] at hl
    have ih:=zat bd e hb rows (acc++[.ref h.length]) z' (h++[zO r]) (by simp; omega)
    simp only [List.map_cons,Qn,yu,true_and,e1,R.bind_ok,ih,List.length_append,List.length_cons,List.length_nil]
    rw [if_pos (by omega)]
    congr 1
    · simp [List.range_succ_eq_map,Function.comp_def]
      intro a _
      omega
    · simp
noncomputable def own (h:MH) (rows:List (List Int)):MH:=h++(rows.map zO++[.lst ((List.range rows.length).map fun i=>MV.ref (h.length + i))])
theorem Zay (rows:List (List Int)):ze (own h rows) (h.length + rows.length)=some ((List.range rows.length).map fun i=>MV.ref (h.length + i)):=by
  unfold own ze
  rw [List.getElem?_append_right (by omega),List.getElem?_append_right (by simp)]
  simp
theorem zaA (rows:List (List Int)) (i:Nat) (r:List Int) (e:rows[i]?=some r):ze (own h rows) (h.length + i)=some (r.map fun i=>.f (.int i)):=by
  have hi:=(List.getElem?_eq_some_iff.mp e).1
  unfold own ze
  rw [List.getElem?_append_right (by omega),List.getElem?_append_left (by simp; omega)]
  simp [e,zO]
theorem ybI (rows:List (List Int)) (i j:Nat) (r:List Int) (v:Int) (e:rows[i]?=some r):qe (own h rows) (h.length + i) ((r.map fun i=>MV.f (.int i)).set j (I v))=own h (yr rows i j v):=by
  have hi:=(List.getElem?_eq_some_iff.mp e).1
  unfold own qe yr
  rw [List.set_append_right _ _ (by omega),List.set_append_left _ _ (by simp; omega)]
  congr 2
  · rw [show h.length + i - h.length=i by omega]
    apply List.ext_getElem?
    intro k
    rw [List.getElem?_set,List.getElem?_map,List.getElem?_map,List.getElem?_modify]
    by_cases hk:i=k
    · subst hk
      simp [hi,e,zO,List.map_set]
      rw [List.getElem?_eq_getElem hi] at e
      simp at e
      rw [e]
    · simp [hk]
  · simp
theorem qbn (rows:List (List Int)):ZD (own h rows) (.ref (h.length + rows.length))=some (Yd false false rows):=by
  have hr:∀ m (xs:List Nat),(∀ i∈xs,i < rows.length)→(xs.map fun i=>MV.ref (h.length + i)).mapM (Yj (own h rows) (m + 2))=some (xs.map fun i=>Qa false (rows.getD i [])):=by
    intro m xs
    induction xs with
    | nil=>intro _; rfl
    | cons x xs ih =>
      intro hx
      have hx0:=hx x (by simp)
      have e:rows[x]?=some (rows.getD x []):=by simp [List.getD,hx0]
      have e1:Yj (own h rows) (m + 2) (.ref (h.length + x))=some (Qa false (rows.getD x [])):=by
        simp only [Yj,zaA h rows x _ e,Option.bind_some]
        have:(List.map (fun i=>MV.f (FV.int i)) (rows.getD x []))=((rows.getD x []).map FV.int).map MV.f:=by simp
        rw [this,qY]
        rfl
      simp only [List.map_cons,List.mapM_cons,e1,ih fun i hi=>hx i (by simp [hi])]
      rfl
  unfold ZD
  simp only [Yj,Zay,Option.bind_some]
  rw [hr 2 _ (by simp)]
  simp only [Option.map_some,Yd,sq,Option.some.injEq]
  congr 1
  apply List.ext_getElem?
  intro k
  by_cases hk:k < rows.length
  · simp [hk,List.getD]
  · simp [hk]
theorem Za8 (rows:List (List Int)):∀ a∈Qi (own h rows) 5 (.ref (h.length + rows.length)),h.length≤a:=by
  intro a ha
  simp only [Qi,Zay,Option.getD_some,List.mem_cons,List.mem_flatMap,List.mem_map,List.mem_range] at ha
  rcases ha with rfl | ⟨m,⟨i,hi,rfl⟩,ha⟩
  · omega
  · have e:rows[i]?=some (rows[i]):=by simp [hi]
    simp only [Qi,zaA h rows i _ e,Option.getD_some,List.mem_cons,List.mem_flatMap,List.mem_map] at ha
    rcases ha with rfl | ⟨m,⟨i,_,rfl⟩,ha⟩
    · omega
    · simp [Qi] at ha
theorem zbL (rows:List (List Int)):∃ t',qB (.ref (h.length + rows.length)) (own h rows)=.ok (.f (Yd false false rows)) (h++t'):=by
  obtain ⟨t',e⟩:=yaI h (rows.map zO++[.lst ((List.range rows.length).map fun i=>MV.ref (h.length + i))]) (Qi (own h rows) 5 (.ref (h.length + rows.length))) (Za8 h rows)
  refine ⟨t',?_⟩
  unfold qB
  rw [qbn,Zf]
  unfold own at e ⊢
  rw [e]
noncomputable abbrev Yl (p:Int×Int):FV:=.tup [.int p.1,.int p.2]
noncomputable abbrev Q3 (p:(Int×Int)×Int):FV:=.tup [Yl p.1,.int p.2]
noncomputable def qi (rows:List (List Int)) (ps:List ((Int×Int)×Int)):List (List Int):=ps.foldl (fun rows p=>yr rows p.1.1.toNat p.1.2.toNat p.2) rows
noncomputable def Inn (rows:List (List Int)) (p:Int×Int):Prop:=0≤p.1∧p.1 < rows.length∧0≤p.2∧∀ r∈rows,p.2 < r.length
theorem YD (rows:List (List Int)) (i j:Nat) (v:Int):(yr rows i j v).length=rows.length:=by simp [yr]
theorem QD {rows:List (List Int)} {i j:Nat} {v:Int} {r:List Int} (hr:r∈yr rows i j v):r∈rows∨∃ r0∈rows,r=r0.set j v:=by
  unfold yr at hr
  obtain ⟨k,hk⟩:=List.mem_iff_getElem?.mp hr
  rw [List.getElem?_modify] at hk
  cases e:rows[k]? with
  | none=>rw [e] at hk; simp at hk
  | some r0 =>
    rw [e] at hk
    have hk':(if i=k then r0.set j v else r0)=r:=by simpa using hk
    have hm:=List.mem_of_getElem? e
    split at hk'
    · exact .inr ⟨r0,hm,hk'.symm⟩
    · exact .inl (hk' ▸ hm)
theorem yaZ {most:Int} {rows:List (List Int)} {i j:Nat} {v:Int} (g:Good most rows) (h0:0≤v) (h1:v≤most):Good most (yr rows i j v):=by
  obtain ⟨m1,ne,⟨w,w0,hw⟩,sh,sz⟩:=g
  refine ⟨m1,fun e=>ne (List.eq_nil_of_length_eq_zero (by rw [← YD rows i j v,e]; rfl)),⟨w,w0,fun r hr=>?_⟩,fun r hr x hx=>?_,by rw [YD]; exact sz⟩
  · rcases QD hr with hr | ⟨r0,hr0,rfl⟩
    · exact hw r hr
    · simp [hw r0 hr0]
  · rcases QD hr with hr | ⟨r0,hr0,rfl⟩
    · exact sh r hr x hx
    · rcases List.mem_or_eq_of_mem_set hx with hx | hx
      · exact sh r0 hr0 x hx
      · subst hx; exact ⟨h0,h1⟩
theorem Qbd {rows:List (List Int)} {i j:Nat} {v:Int} {p:Int×Int} (h:Inn rows p):Inn (yr rows i j v) p:=by
  refine ⟨h.1,by rw [YD]; exact h.2.1,h.2.2.1,fun r hr=>?_⟩
  rcases QD hr with hr | ⟨r0,hr0,rfl⟩
  · exact h.2.2.2 r hr
  · simp; exact h.2.2.2 r0 hr0
theorem Zaq {α β γ:Type} (F:β×γ→α→β×γ) (G:β→α→β) (hFG:∀ b a,(F b a).1=G b.1 a):∀ (xs:List α) (z:β×γ),(xs.foldl F z).1=xs.foldl G z.1
  | [],z=>rfl
  | x::xs,z=>by rw [List.foldl_cons,List.foldl_cons,Zaq F G hFG xs,hFG]
end
@[simp] theorem cellL_at (xs:List MV) (t:MH):ze (.lst xs::t) 0=some xs:=rfl
@[simp] theorem qb1 (xs ys:List MV) (t:MH):qe (.lst xs::t) 0 ys=.lst ys::t:=rfl
noncomputable def yR (ns:List Int) (k:Int):Int:=if ns=[] then 0 else ns.getD (k % ns.length).toNat 0
noncomputable def YK (ns:List Int) (k:Int):Int:=((yR ns k % 2147483647 + k * k * 7919 + 11) * 48271 % 2147483647) * ((yR ns k % 2147483647 + k * k * 7919 + 11) * 48271 % 2147483647) % 1999999973
theorem Yo (ns:List Int) (k:Int):0≤YK ns k∧YK ns k < 1999999973:=⟨Int.emod_nonneg _ (by decide),Int.emod_lt_of_pos _ (by decide)⟩
noncomputable abbrev atC (k:Int):Cell:=.lst [I k]
theorem yx {i j:Int} (h:j.natAbs < 2 ^ 64):Zw i j:=.inr (.inl h)
section
variable {h:MH}
@[simp] theorem zbT (a:Nat) (y:MV):lmV "append" (.ref a) [y] h=opt (ze h a) fun xs=>if xs.length < sizeL then .ok (.f .non) (qe h a (xs++[y])) else .stuck:=rfl
@[simp] theorem zb0 (a:Nat) (i:Int) (y:MV):lmV "insert" (.ref a) [.f (.int i),y] h=opt (ze h a) fun xs=>if xs.length < sizeL∧-(2 ^ 63)≤i∧i < 2 ^ 63 then .ok (.f .non) (qe h a (ZaM xs i y)) else .stuck:=rfl
end
theorem YaT {bd:MV→MSt→MH→RS} (N:Nat) (Pv:Nat→MSt→MH→Prop) (σ:MSt) (h:MH) (h0:Pv 0 σ h)
    (step:∀ i σ h,i < N→Pv i σ h→∃ σ' h',bd (I i) σ h=.next σ' h'∧Pv (i + 1) σ' h'):∃ σ' h',Zu [] bd ((List.range N).map fun (k:Nat)=>I k) σ h=.next σ' h'∧Pv N σ' h':=by
  have:=Qaf (bd:=bd) (e:=fun k:Nat=>I k) Pv (List.range N) 0 σ h h0 (fun j y σ h hj pj=>by
    have hl:j < N:=by have:=(List.getElem?_eq_some_iff.mp hj).1; simpa using this
    have hy:y=j:=by rw [List.getElem?_range hl] at hj; exact (Option.some.inj hj).symm
    subst hy
    simp only [Nat.zero_add] at pj ⊢
    exact step y σ h hl pj)
  simpa using this
noncomputable def Own (h g:MH) (xs:List MV):Prop:=∃ t,g=h++.lst xs::t
namespace Own
variable {h g:MH} {xs:List MV}
theorem new (h:MH):Own h (h++[.lst xs]) xs:=⟨[],rfl⟩
theorem cell (o:Own h g xs) (c:Cell):ze (c::g) (h.length + 1)=some xs:=by
  obtain ⟨t,rfl⟩:=o
  have:=Zx (c::h) t xs
  simpa using this
end Own
theorem Yi (i j:Int) (hj:0 < j):0≤i % j∧i % j < j:=⟨Int.emod_nonneg _ (by omega),Int.emod_lt_of_pos _ hj⟩
theorem QY (ns:List Int) (hn:ns≠[]) (k:Int):atM (ns.map fun i=>MV.f (.int i)) (k % ns.length)=some (I (yR ns k)):=by
  have hl:0 < ns.length:=List.length_pos_iff.mpr hn
  have h0:0≤k % (ns.length:Int):=Int.emod_nonneg _ (by omega)
  have h1:k % (ns.length:Int) < ns.length:=Int.emod_lt_of_pos _ (by omega)
  rw [yA _ _ h0,List.getElem?_map,List.getElem?_eq_getElem (by omega)]
  simp [yR,hn,List.getD,List.getElem?_eq_getElem (show (k % (ns.length:Int)).toNat < ns.length by omega)]
noncomputable def Nx (r:RS) (P:MSt→MH→Prop):Prop:=∃ σ h,r=.next σ h∧P σ h
noncomputable def Ret (r:R MV) (P:MV→MH→Prop):Prop:=∃ v h,r=.ok v h∧P v h
@[simp] theorem Nx_next (σ:MSt) (h:MH) (P:MSt→MH→Prop):Nx (.next σ h) P↔P σ h:=⟨fun ⟨_,_,e,p⟩=>by cases e; exact p,fun p=>⟨_,_,rfl,p⟩⟩
@[simp] theorem Ret_ok (v:MV) (h:MH) (P:MV→MH→Prop):Ret (.ok v h) P↔P v h:=⟨fun ⟨_,_,e,p⟩=>by cases e; exact p,fun p=>⟨_,_,rfl,p⟩⟩
section
variable {bd:MV→MSt→MH→RS} {σ:MSt} {h:MH} {k:MSt→MH→RS}
theorem Yp {Q:RS→Prop} (N:Nat) (Pv:Nat→MSt→MH→Prop) (h0:Pv 0 σ h) (step:∀ i σ h,i < N→Pv i σ h→∀ Q:MSt→MH→Prop,(∀ σ h,Pv (i + 1) σ h→Q σ h)→Nx (bd (I i) σ h) Q)
    (fin:∀ σ' h',Pv N σ' h'→Q (k σ' h')):Q ((Zu [] bd ((List.range N).map fun (k:Nat)=>I k) σ h).bind k):=by
  obtain ⟨σ',h',e,p⟩:=YaT N Pv σ h h0 fun i σ h hi p=>step i σ h hi p _ fun _ _ x=>x
  rw [e]
  exact fin σ' h' p
theorem QU {α:Type} {e:α→MV} {Q:RS→Prop} (ys:List α) (Pv:Nat→MSt→MH→Prop) (h0:Pv 0 σ h) (step:∀ i y σ h,ys[i]?=some y→Pv i σ h→∀ Q:MSt→MH→Prop,(∀ σ h,Pv (i + 1) σ h→Q σ h)→Nx (bd (e y) σ h) Q)
    (fin:∀ σ' h',Pv ys.length σ' h'→Q (k σ' h')):Q ((Zu [] bd (ys.map e) σ h).bind k):=by
  obtain ⟨σ',h',e,p⟩:=Qaf (bd:=bd) (e:=e) Pv ys 0 σ h h0 (fun j y σ h hj pj=>by simp only [Nat.zero_add] at pj ⊢; exact step j y σ h hj pj _ fun _ _ x=>x)
  rw [e]
  exact fin σ' h' (by simpa using p)
end
theorem Ret.of {r:R MV} {P:MV→MH→Prop} (k:∀ Q:MV→MH→Prop,(∀ v h,P v h→Q v h)→Ret r Q):Ret r P:=k P fun _ _ x=>x
theorem zbe (c:Cell) (g:MH) (d:Cell):kill [g.length + 1] (c::(g++[d]))=c::(g++[.dead]):=by
  unfold kill
  refine List.ext_getElem? fun i=>?_
  rw [List.getElem?_mapIdx]
  cases i with
  | zero=>simp
  | succ i =>
    simp only [List.getElem?_cons_succ,List.mem_singleton]
    rcases Nat.lt_trichotomy i g.length with hi | hi | hi
    · rw [List.getElem?_append_left hi,List.getElem?_append_left hi]
      have:¬ i + 1=g.length + 1:=by omega
      simp only [this,if_false]
      cases g[i]? <;> rfl
    · subst hi; simp
    · rw [List.getElem?_eq_none (by simp; omega),List.getElem?_eq_none (by simp; omega)]; rfl
theorem zaK (c:Cell) (g:MH) (ys:List FV):qB (.ref (g.length + 1)) (c::(g++[.lst (ys.map .f)]))=.ok (.f (.lst ys)) (c::(g++[.dead])):=by
  rw [qaI _ _ ys ((Own.new (xs:=ys.map .f) g).cell c),zbe]
section
variable {h:MH} (sub:String→String→Option Bool) (t:String)
@[simp] theorem isIV_non:YU sub h (.f .non) t=some false:=rfl
@[simp] theorem isIV_bl (b:Bool):YU sub h (.f (.bl b)) t=some (decide (t="bool") || decide (t="int")):=rfl
@[simp] theorem isIV_int (i:Int):YU sub h (.f (.int i)) t=some (decide (t="int")):=rfl
@[simp] theorem isIV_str (s:Str):YU sub h (.f (.str s)) t=some (decide (t="str")):=rfl
@[simp] theorem isIV_tup (xs:List FV):YU sub h (.f (.tup xs)) t=some (decide (t="tuple")):=rfl
@[simp] theorem isIV_lst (xs:List FV):YU sub h (.f (.lst xs)) t=some (decide (t="list")):=rfl
@[simp] theorem isIV_obj (c:String) (ns:List String) (xs:List FV):YU sub h (.f (.obj c ns xs)) t=sub c t:=rfl
end
@[simp] theorem eqF_bl (a b:Bool):eqF (.bl a) (.bl b)=some (a == b):=by simp [eqF,eqD]
theorem cut_lo (xs:List MV) (i:Int) (h0:0≤i) (h1:i≤xs.length):yW xs none (some i)=xs.take i.toNat:=by
  have e:Zak xs.length xs.length (some i)=i.toNat:=by simp only [Zak]; rw [if_neg (by omega)]; omega
  simp only [yW,e]; simp [Zak]
theorem qb5 (xs:List MV) (i:Int) (h0:0≤i) (h1:i≤xs.length):yW xs (some i) none=xs.drop i.toNat:=by
  have e:Zak xs.length 0 (some i)=i.toNat:=by simp only [Zak]; rw [if_neg (by omega)]; omega
  simp only [yW,e]
  exact List.take_of_length_le (by simp [Zak])
structure Drawn (most:Int) (rows:List (List Int)) (i j:Nat):Prop where
  len:rows.length=i
  wid:∀ r∈rows,r.length=j
  sh:∀ r∈rows,∀ v∈r,0≤v∧v≤most
theorem Drawn.snoc {most:Int} {rows:List (List Int)} {i j:Nat} {r:List Int} (d:Drawn most rows i j) (hr:r.length=j∧∀ v∈r,0≤v∧v≤most):Drawn most (rows++[r]) (i + 1) j :=
  ⟨by simp [d.len],fun x hx=>by
    rcases List.mem_append.mp hx with hx | hx
    · exact d.wid x hx
    · simp at hx; subst hx; exact hr.1,fun x hx=>by
    rcases List.mem_append.mp hx with hx | hx
    · exact d.sh x hx
    · simp at hx; subst hx; exact hr.2⟩
theorem YW (xs:List MV) (i:Int) (h0:0≤i) (h1:i < xs.length):∃ v∈xs,atM xs i=some v:=by
  rw [yA xs i h0,List.getElem?_eq_getElem (by omega)]
  exact ⟨_,List.getElem_mem (by omega),rfl⟩
theorem Drawn.good {most:Int} {rows:List (List Int)} {i j:Nat} (d:Drawn most rows i j) (hm:1≤most) (hi:1≤i) (hi2:i≤1000) (hj:1≤j):Good most rows :=
  ⟨hm,fun e=>by have:=d.len; rw [e] at this; simp at this; omega,⟨j,hj,d.wid⟩,d.sh,by rw [d.len]; exact hi2⟩
end MP
end
section
namespace MP
open PySem
section
variable {h:MH}
@[simp] theorem ybU (a:Nat) (z:MV):lmV "extend" (.ref a) [z] h=opt (ze h a) fun xs=>opt (listOf h z) fun ys=>if xs.length + ys.length≤sizeL then .ok (.f .non) (qe h a (xs++ys)) else .stuck:=rfl
@[simp] theorem lmV_pop (a:Nat):lmV "pop" (.ref a) [] h=opt (ze h a) fun xs=>opt (xs[xs.length - 1]?) fun y=>.ok y (qe h a (xs.take (xs.length - 1))):=rfl
@[simp] theorem qcc (a:Nat) (i:Int):lmV "pop" (.ref a) [.f (.int i)] h=opt (ze h a) fun xs=>opt (ixM xs.length i) fun k=>opt (xs[k]?) fun y=>if -(2 ^ 63)≤i∧i < 2 ^ 63 then .ok y (qe h a (xs.take k++xs.drop (k + 1))) else .stuck:=rfl
end
section
variable {most:Int} {rows r1 r2:List (List Int)} {H W:Nat}
theorem Drawn.cons (d:Drawn most rows H W) (hH:1≤H):∃ r rs,rows=r::rs∧r.length=W∧rs.length + 1=H:=by
  cases rows with
  | nil=>have:=d.len; simp at this; omega
  | cons r rs=>exact ⟨r,rs,rfl,d.wid r (by simp),by have:=d.len; simpa using this⟩
end
theorem ybi {α β:Type} (f:α→FV) (g:β→FV) (xs:List α) (ys:List β):List.map (fun p:MV×MV=>Zg [p.1,p.2]) ((xs.map (MV.f∘f)).zip (ys.map (MV.f∘g)))=(xs.zip ys).map fun p=>MV.f (.tup [f p.1,g p.2]):=by
  rw [List.zip_map,List.map_map]; rfl
theorem QaG {a:Nat} {xs:List MV} {h:MH} (e:ze h a=some xs):GuardOk [(a,xs)] h:=fun p hp=>by simp at hp; subst hp; exact e
noncomputable abbrev zw (p:Nat×Nat):FV:=.tup [.int p.1,.int p.2]
structure Inks (most:Int) (inks:List Int):Prop where
  up:inks.Pairwise (· < ·)
  inn:∀ v∈inks,0≤v∧v≤most
  z:0∈inks
  m:most∈inks
  sz:inks.length≤50
theorem zbQ {inks:List Int} (up:inks.Pairwise (· < ·)) {i j:Nat} (h:i < j) (hj:j < inks.length):inks.getD i 0 < inks.getD j 0:=by
  have:=(List.pairwise_iff_getElem.mp up) i j (by omega) hj h
  simpa [List.getD,hj,show i < inks.length by omega] using this
theorem qbO {inks:List Int} (up:inks.Pairwise (· < ·)) {i j:Nat} (h:i≤j) (hj:j < inks.length):inks.getD i 0≤inks.getD j 0:=by
  by_cases e:i=j
  · subst e; exact Int.le_refl _
  · exact Int.le_of_lt (zbQ up (by omega) hj)
theorem zbm {inks:List Int} {v:Int} (h:v∈inks):∃ i,i < inks.length∧inks.getD i 0=v:=by
  obtain ⟨i,hi,e⟩:=List.getElem_of_mem h
  exact ⟨i,hi,by simp [List.getD,hi,e]⟩
theorem Ybt {inks:List Int} {i:Nat} (h:i < inks.length):inks.getD i 0∈inks:=by simp [List.getD,h]
namespace Inks
variable {most:Int} {inks:List Int} (K:Inks most inks)
include K
theorem pos:0 < inks.length:=List.length_pos_of_mem K.z
theorem head:inks.getD 0 0=0:=by
  obtain ⟨i,hi,e⟩:=zbm K.z
  have h1:=qbO K.up (Nat.zero_le i) hi
  have h2:=K.inn _ (Ybt K.pos)
  omega
theorem last:inks.getD (inks.length - 1) 0=most:=by
  have hp:=K.pos
  obtain ⟨i,hi,e⟩:=zbm K.m
  have h1:=qbO K.up (show i≤inks.length - 1 by omega) (by omega)
  have h2:=K.inn _ (Ybt (show inks.length - 1 < inks.length by omega))
  omega
theorem two (h:1≤most):2≤inks.length:=by
  have hp:=K.pos
  by_cases c:inks.length=1
  · have:=K.head; have l:=K.last; rw [c] at l; simp only [Nat.sub_self] at l; omega
  · omega
end Inks
end MP
namespace MP
open PySem
theorem mem_addK {ks:List Int} {k x:Int}:x∈zu ks k↔x∈ks∨x=k:=by
  unfold zu
  split
  · next h=>exact ⟨.inl,fun e=>e.elim id fun z=>z ▸ h⟩
  · simp
structure DicK (most:Int) (ks:List Int) (n:Nat):Prop where
  nd:ks.Nodup
  inn:∀ v∈ks,0≤v∧v≤most
  z:0∈ks
  m:most∈ks
  sz:ks.length≤n
theorem DicK.start {most:Int} (h:1≤most):DicK most (zu (zu [] 0) most) 2:=by
  have e:zu (zu [] 0) most=[0,most]:=by simp [zu,show ¬ most=0 by omega]
  rw [e]
  exact ⟨by simp; omega,by simp; omega,by simp,by simp,by simp⟩
theorem DicK.add {most:Int} {ks:List Int} {n:Nat} (d:DicK most ks n) {k:Int} (h:0≤k∧k≤most):DicK most (zu ks k) (n + 1):=by
  refine ⟨?_,fun v hv=>?_,mem_addK.mpr (.inl d.z),mem_addK.mpr (.inl d.m),?_⟩
  · unfold zu
    split
    · exact d.nd
    · next hn=>exact List.nodup_append.mpr ⟨d.nd,by simp,fun a ha b hb=>by simp at hb; subst hb; exact fun e=>hn (e ▸ ha)⟩
  · rcases mem_addK.mp hv with hv | rfl
    · exact d.inn v hv
    · exact h
  · unfold zu
    have:=d.sz
    split
    · omega
    · simp; omega
theorem DicK.inks {most:Int} {ks:List Int} {n:Nat} (d:DicK most ks n) (hn:n≤50):Inks most (qJ ks):=by
  have p:=qP ks
  have nd:(qJ ks).Nodup:=p.nodup_iff.mpr d.nd
  refine ⟨?_,fun v hv=>d.inn v (p.mem_iff.mp hv),p.mem_iff.mpr d.z,p.mem_iff.mpr d.m,by rw [p.length_eq]; have:=d.sz; omega⟩
  have le:=zaL ks
  exact (List.pairwise_and_iff.mpr ⟨le,nd⟩).imp fun h=>by have:=h.1; have:=h.2; omega
theorem zbx (h:MH) (b:Bool) (p:Int) (ms:List Int):qx .nin (I p) (.f (Qa b ms)) h=some (!decide (p∈ms)):=by
  have e1:((ms.map FV.int).map MV.f).mapM (ZD h)=some (ms.map FV.int):=qY h 4 _
  have e2:inF (.int p) (ms.map FV.int)=some (decide (p∈ms)):=by
    have ha:(ms.map FV.int).all (isD 8)=true:=by
      rw [List.all_eq_true]
      intro x hx
      obtain ⟨y,_,rfl⟩:=List.mem_map.mp hx
      rfl
    unfold inF
    rw [if_pos ⟨rfl,ha⟩]
    congr 1
    induction ms with
    | nil=>rfl
    | cons a ms ih =>
      simp only [List.map_cons,List.any_cons,eqD]
      have ih':=ih (qY h 4 _) (by simp only [List.map_cons,List.all_cons,Bool.and_eq_true] at ha; exact ha.2)
      rw [ih']
      by_cases c:a=p
      · subst c; simp
      · have c':¬ p=a:=fun z=>c z.symm
        simp [c,c']
  have e4:yb h (.f (Qa b ms))=some ((ms.map FV.int).map MV.f):=by simp [Qa]
  simp only [qx,yb9,Option.bind_some,e4,e1,e2,Option.map_some]
structure InkV (h:MH) (iv:MV) (inks:List Int):Prop where
  q:yb h iv=some (inks.map (MV.f∘FV.int))
  g:GuardOk (Zc h iv) h
theorem InkV.row (h:MH) (b:Bool) (inks:List Int):InkV h (.f (Qa b inks)) inks:=⟨by simp [Qa],by intro p hp; exact absurd hp (by simp [Qa])⟩
theorem ybE {iv:MV} {xs:List MV} (h:MH) (e:Yk iv=some xs):yb h iv=some xs:=by
  cases iv with
  | f x=>cases x <;> first | exact e | (simp [Yk] at e)
  | ref a=>simp [Yk] at e
  | tup ys=>exact e
  | exc c=>simp [Yk] at e
theorem InkV.slice {h:MH} {iv:MV} {inks:List Int} (v:InkV h iv inks) {lo hi:Option Int} {l:List Int} (e:yW (inks.map (MV.f∘FV.int)) lo hi=l.map (MV.f∘FV.int)):∃ b,Y0 true iv lo hi h=.ok (.f (Qa b l)) h:=by
  unfold Y0
  cases et:Yk iv with
  | some xs =>
    have:=ybE h et
    rw [v.q] at this; cases this
    exact ⟨true,by simp only [e,yaS]; rfl⟩
  | none =>
    exact ⟨false,by simp only [v.q,Zf,e,Zai]; rfl⟩
theorem ZaD (inks:List Int) (h2:1≤inks.length):yW (inks.map (MV.f∘FV.int)) none (some (-1))=(inks.take (inks.length - 1)).map (MV.f∘FV.int):=by
  simp only [yW,Zak,List.length_map,List.drop_zero,Nat.sub_zero]
  rw [if_pos (by decide),show ((-1:Int) + (inks.length:Int)).toNat=inks.length - 1 by omega]
  simp [List.map_take]
theorem Ybr (inks:List Int) (h2:1≤inks.length):yW (inks.map (MV.f∘FV.int)) (some 1) none=(inks.drop 1).map (MV.f∘FV.int):=by
  have:=qb5 (inks.map (MV.f∘FV.int)) 1 (by decide) (by simp; omega)
  rw [this]; simp [List.map_drop]
theorem Z7 {α:Type} {G:yz} {bd:MV→MSt→MH→RS} {e:α→MV} {c:String} (Pv:Nat→MSt→MH→Prop) (Xh:MH→Prop) (hG:∀ i σ h,Pv i σ h→GuardOk G h):∀ (ys:List α) (i:Nat) (σ:MSt) (h:MH),Pv i σ h →
    (∀ j y σ h,ys[j]?=some y→Pv (i + j) σ h→(∃ σ' h',bd (e y) σ h=.next σ' h'∧Pv (i + j + 1) σ' h')∨∃ h',bd (e y) σ h=.exc c h'∧Xh h') →
    (∃ σ' h',Zu G bd (ys.map e) σ h=.next σ' h'∧Pv (i + ys.length) σ' h')∨∃ h',Zu G bd (ys.map e) σ h=.exc c h'∧Xh h'
  | [],i,σ,h,p,_=>.inl ⟨σ,h,by simp [Zu,hG i σ h p],p⟩
  | y::r,i,σ,h,p,hb=>by
    rcases hb 0 y σ h rfl p with ⟨σ1,h1,e1,p1⟩ | ⟨h1,e1,x1⟩
    · rcases Z7 (G:=G) (bd:=bd) (e:=e) (c:=c) Pv Xh hG r (i + 1) σ1 h1 p1 (fun j y σ h hj pj=>by
        have:=hb (j + 1) y σ h (by simpa using hj) (by rw [show i + (j + 1)=i + 1 + j by omega]; exact pj)
        rwa [show i + (j + 1) + 1=i + 1 + j + 1 by omega] at this) with ⟨σ2,h2,e2,p2⟩ | ⟨h2,e2,x2⟩
      · refine .inl ⟨σ2,h2,by simp [Zu,hG i σ h p,e1,e2],?_⟩
        rwa [show i + (y::r).length=i + 1 + r.length by simp; omega]
      · exact .inr ⟨h2,by simp [Zu,hG i σ h p,e1,e2],x2⟩
    · exact .inr ⟨h1,by simp only [List.map_cons,Zu,hG i σ h p,if_true,e1]; rfl,x1⟩
theorem Za0 {α:Type} {G:yz} {bd:MV→MSt→MH→RS} {e:α→MV} {c:String} {σ:MSt} {h:MH} {k:MSt→MH→RS} {Q:RS→Prop} (ys:List α) (Pv:Nat→MSt→MH→Prop) (Xh:MH→Prop) (hG:∀ i σ h,Pv i σ h→GuardOk G h) (h0:Pv 0 σ h)
    (step:∀ i y σ h,ys[i]?=some y→Pv i σ h→(∃ σ' h',bd (e y) σ h=.next σ' h'∧Pv (i + 1) σ' h')∨∃ h',bd (e y) σ h=.exc c h'∧Xh h')
    (fin:∀ σ' h',Pv ys.length σ' h'→Q (k σ' h')) (bad:∀ h',Xh h'→Q (.exc c h')):Q ((Zu G bd (ys.map e) σ h).bind k):=by
  rcases Z7 (G:=G) (bd:=bd) (e:=e) (c:=c) Pv Xh hG ys 0 σ h h0 (fun j y σ h hj pj=>by simp only [Nat.zero_add] at pj ⊢; exact step j y σ h hj pj) with ⟨σ',h',e1,p⟩ | ⟨h',e1,x⟩
  · rw [e1]; exact fin σ' h' (by simpa using p)
  · rw [e1]; exact bad h' x
theorem zE {α:Type} {G:yz} {bd:MV→MSt→MH→R (Option MV×MSt)} {h:MH} {e g:α→MV} (hg:GuardOk G h) (Iv:MSt→Prop):∀ (ys:List α) (acc:List MV) (σ:MSt),Iv σ→acc.length + ys.length≤sizeL →
    (∀ y∈ys,∀ σ,Iv σ→∃ σ',bd (e y) σ h=.ok (some (g y),σ') h∧Iv σ')→Qn G bd (ys.map e) acc σ h=.ok (acc++ys.map g) h
  | [],acc,σ,_,_,_=>by simp [Qn,hg]
  | y::r,acc,σ,i0,hl,hb=>by
    obtain ⟨σ',e1,i1⟩:=hb y (by simp) σ i0
    simp only [List.length_cons] at hl
    have ih:=zE (bd:=bd) (e:=e) (g:=g) hg Iv r (acc++[g y]) σ' i1 (by simp; omega) fun y hy=>hb y (by simp [hy])
    simp only [List.map_cons,Qn,hg,true_and,e1,R.bind_ok,ih]
    rw [if_pos (by omega)]
    simp
structure SeqV (h:MH) (iv:MV) (xs:List MV):Prop where
  q:yb h iv=some xs
  g:GuardOk (Zc h iv) h
theorem SeqV.lst (h:MH) (xs:List FV):SeqV h (.f (.lst xs)) (xs.map .f):=⟨rfl,by intro p hp; exact absurd hp (by simp [Zc])⟩
theorem SeqV.tup (h:MH) (xs:List FV):SeqV h (.f (.tup xs)) (xs.map .f):=⟨rfl,by intro p hp; exact absurd hp (by simp [Zc])⟩
noncomputable def EiX (c:String) (r:RS) (P:MSt→MH→Prop) (X:MH→Prop):Prop:=(∃ σ h,r=.next σ h∧P σ h)∨∃ h,r=.exc c h∧X h
noncomputable def EiR (c:String) (r:R MV) (P:MV→MH→Prop) (X:MH→Prop):Prop:=(∃ v h,r=.ok v h∧P v h)∨∃ h,r=.exc c h∧X h
@[simp] theorem EiX_next (c:String) (σ:MSt) (h:MH) (P:MSt→MH→Prop) (X:MH→Prop):EiX c (.next σ h) P X↔P σ h:=⟨fun z=>by rcases z with ⟨_,_,e,p⟩ | ⟨_,e,_⟩ <;> cases e; exact p,fun p=>.inl ⟨_,_,rfl,p⟩⟩
@[simp] theorem EiX_exc (c:String) (h:MH) (P:MSt→MH→Prop) (X:MH→Prop):EiX c (.exc c h) P X↔X h:=⟨fun z=>by rcases z with ⟨_,_,e,_⟩ | ⟨_,e,p⟩ <;> cases e; exact p,fun p=>.inr ⟨_,rfl,p⟩⟩
@[simp] theorem EiR_ok (c:String) (v:MV) (h:MH) (P:MV→MH→Prop) (X:MH→Prop):EiR c (.ok v h) P X↔P v h:=⟨fun z=>by rcases z with ⟨_,_,e,p⟩ | ⟨_,e,_⟩ <;> cases e; exact p,fun p=>.inl ⟨_,_,rfl,p⟩⟩
@[simp] theorem EiR_exc (c:String) (h:MH) (P:MV→MH→Prop) (X:MH→Prop):EiR c (.exc c h) P X↔X h:=⟨fun z=>by rcases z with ⟨_,_,e,_⟩ | ⟨_,e,p⟩ <;> cases e; exact p,fun p=>.inr ⟨_,rfl,p⟩⟩
noncomputable def Qj (H W:Nat):List (Nat×Nat):=(List.range H).flatMap fun r=>(List.range W).map fun c=>(r,c)
theorem Yas (H W:Nat):(Qj H W).length=H * W:=by
  unfold Qj
  rw [List.length_flatMap]
  simp only [List.length_map,List.length_range]
  induction H with
  | zero=>simp
  | succ H ih=>rw [List.range_succ,List.map_append,List.sum_append,ih,Nat.add_mul]; simp
theorem Z6 (a b:Cell) (h t:MH) (xs:List MV):ze (a::b::(h++.lst xs::t)) (h.length + 2)=some xs:=by
  have:=Zx (a::b::h) t xs; simpa using this
theorem ya8 (a b:Cell) (h t:MH) (xs ys:List MV):qe (a::b::(h++.lst xs::t)) (h.length + 2) ys=a::b::(h++.lst ys::t):=by
  have:=yJ (a::b::h) t xs ys; simpa using this
noncomputable def zm (b n:Nat):List MV:=(List.range n).map fun i=>MV.ref (b + i)
noncomputable abbrev zae (r:List Int):Cell:=.lst (r.map fun i=>MV.f (.int i))
noncomputable def qm (b:Nat) (h:MH) (rows:List (List Int)):MH:=h++.lst (zm (h.length + b + 1) rows.length)::rows.map zae
theorem QaX (b n:Nat):zm b n++[.ref (b + n)]=zm b (n + 1):=by simp [zm,List.range_succ]
theorem qa7 (b n:Nat) (hn:0 < n):Qh (zm b n)=none:=by
  cases n with
  | zero=>omega
  | succ n=>simp [zm,List.range_succ_eq_map,Qh]
theorem QaZ {h h':MH} {a b n:Nat} (e:ze h' a=some (zm b n)) (hn:0 < n):qg h (.ref a) h'=.ok (.ref a) h':=by
  unfold qg
  split
  · simp only [e,qa7 b n hn]
    split <;> rfl
  · rfl
theorem Zaj (c d:Cell) (h:MH) (rows:List (List Int)) (i:Nat) (r:List Int) (hr:rows[i]?=some r):ze (c::d::qm 2 h rows) (h.length + 3 + i)=some (r.map fun i=>MV.f (.int i)):=by
  unfold ze qm
  rw [show h.length + 3 + i=(h.length + 1 + i) + 2 by omega]
  simp only [List.getElem?_cons_succ]
  rw [List.getElem?_append_right (by omega),show h.length + 1 + i - h.length=i + 1 by omega]
  simp only [List.getElem?_cons_succ,List.getElem?_map,hr,Option.map_some]
theorem Qbr (c d:Cell) (h:MH) (rows:List (List Int)) (i:Nat) (r':List Int) (hi:i < rows.length):qe (c::d::qm 2 h rows) (h.length + 3 + i) (r'.map fun i=>MV.f (.int i))=c::d::qm 2 h (rows.set i r'):=by
  unfold qe qm
  rw [show h.length + 3 + i=(h.length + 1 + i) + 2 by omega]
  simp only [List.set_cons_succ]
  rw [List.set_append_right _ _ (by omega),show h.length + 1 + i - h.length=i + 1 by omega]
  simp [List.map_set]
theorem ZW (c d:Cell) (h:MH) (rows:List (List Int)):ze (c::d::qm 2 h rows) (h.length + 2)=some (zm (h.length + 3) rows.length):=Z6 c d h _ _
theorem zbf (c d:Cell) (h:MH) (rows:List (List Int)):ZD (c::d::qm 2 h rows) (.ref (h.length + 2))=some (Yd false false rows):=by
  have hr:∀ (m:Nat) (is:List Nat),(∀ i∈is,i < rows.length)→(is.map fun i=>MV.ref (h.length + 3 + i)).mapM (Yj (c::d::qm 2 h rows) (m + 2))=some (is.map fun i=>Qa false (rows.getD i [])):=by
    intro m is hx
    induction is with
    | nil=>rfl
    | cons x xs ih =>
      have hx0:=hx x (by simp)
      have e:rows[x]?=some (rows.getD x []):=by simp [List.getD,hx0]
      have e1:Yj (c::d::qm 2 h rows) (m + 2) (.ref (h.length + 3 + x))=some (Qa false (rows.getD x [])):=by
        simp only [Yj,Zaj c d h rows x _ e,Option.bind_some]
        have:(List.map (fun i=>MV.f (FV.int i)) (rows.getD x []))=((rows.getD x []).map FV.int).map MV.f:=by simp
        rw [this,qY]
        rfl
      simp only [List.map_cons,List.mapM_cons,e1,ih fun i hi=>hx i (by simp [hi])]
      rfl
  unfold ZD
  simp only [Yj,ZW,Option.bind_some]
  rw [zm,hr 2 _ (by simp)]
  simp only [Option.map_some,Yd,sq,Option.some.injEq]
  congr 1
  apply List.ext_getElem?
  intro k
  by_cases hk:k < rows.length
  · simp [hk,List.getD]
  · simp [hk]
theorem qaY (c d:Cell) (h:MH) (rows:List (List Int)):∀ a∈Qi (c::d::qm 2 h rows) 5 (.ref (h.length + 2)),(c::d::h).length≤a:=by
  intro a ha
  simp only [Qi,ZW,Option.getD_some,zm,List.mem_cons,List.mem_flatMap,List.mem_map,List.mem_range] at ha
  rcases ha with rfl | ⟨m,⟨i,hi,rfl⟩,ha⟩
  · simp
  · have e:rows[i]?=some (rows[i]):=by simp [hi]
    simp only [Qi,Zaj c d h rows i _ e,Option.getD_some,List.mem_cons,List.mem_flatMap,List.mem_map] at ha
    rcases ha with rfl | ⟨m,⟨i,_,rfl⟩,ha⟩
    · simp; omega
    · simp [Qi] at ha
theorem Zbs (c d:Cell) (h:MH) (rows:List (List Int)):∃ t',qB (.ref (h.length + 2)) (c::d::qm 2 h rows)=.ok (.f (Yd false false rows)) (c::d::(h++t')):=by
  obtain ⟨t',e⟩:=yaI (c::d::h) (.lst (zm (h.length + 3) rows.length)::rows.map zae) (Qi (c::d::qm 2 h rows) 5 (.ref (h.length + 2))) (qaY c d h rows)
  refine ⟨t',?_⟩
  unfold qB
  rw [zbf,Zf]
  have e2:c::d::qm 2 h rows=(c::d::h)++(.lst (zm (h.length + 3) rows.length)::rows.map zae):=rfl
  rw [e2] at e ⊢
  rw [e]
  rfl
theorem trC (k k':Int) (h t:MH):TrOk (.code::atC k::h) (.code::atC k'::(h++t)):=⟨by simp,fun i c hi e=>by
  rcases i with _ | _ | i
  · exact .inl e
  · simp at e; subst e; exact .inr ⟨[.int k'],rfl⟩
  · simp only [List.length_cons] at hi
    exact .inl (by simpa [List.getElem?_append_left (show i < h.length by omega)] using e)⟩
theorem Yak (k k':Int) (h t:MH) (x:FV):qg (.code::atC k::h) (.f x) (.code::atC k'::(h++t))=.ok (.f x) (.code::atC k'::h):=by
  simp [qg,trC]
theorem Qav (k k':Int) (h:MH) (x:FV):qg (.code::atC k::h) (.f x) (.code::atC k'::h)=.ok (.f x) (.code::atC k'::h):=by
  have:=Yak k k' h [] x
  simpa using this
theorem ZY (a b:Cell) (g:MH) (ys:List FV):qB (.ref (g.length + 2)) (a::b::(g++[.lst (ys.map .f)]))=.ok (.f (.lst ys)) (a::b::(g++[.dead])):=by
  have:=zaK a (b::g) ys; simpa using this
theorem Zcb (a b:Cell) (g t:MH) (ks:List Int):Q5 (a::b::(g++.dic ks::t)) (.ref (g.length + 2))=some ks:=by simp [Q5]
theorem setD2 (a b:Cell) (g t:MH) (c d:Cell):(a::b::(g++c::t)).set (g.length + 2) d=a::b::(g++d::t):=by simp
theorem YbX (a b:Cell) (g t:MH) (ks:List ((Int×Int)×Int)):ql (a::b::(g++.tab ks::t)) (.ref (g.length + 2))=some ks:=by simp [ql]
end MP
end
section
set_option maxHeartbeats 2000000
namespace MP
open PySem
section
variable (n:Nat) (h:MH)
theorem yk (ns:List Int) (k:Int) (hk:0≤k) (hk2:k < 1000000):run prog (n + 1) "_law_next" [.f (.scr ns),.ref 1] (.code::atC k::h)=.ok (I (YK ns (k + 1))) (.code::atC (k + 1)::h):=by
  have m1:Zw (k + 1) (k + 1):=yx (by omega)
  have m2:∀ x,Zw x 7919:=fun x=>yx (by decide)
  have m3:∀ x,Zw x 48271:=fun x=>yx (by decide)
  have m4:∀ x:Int,Zw (x % 2147483647) (x % 2147483647):=fun x=>yx (by have:=Int.emod_nonneg x (show (2147483647:Int)≠0 by decide); have:=Int.emod_lt_of_pos x (show (0:Int) < 2147483647 by decide); omega)
  have c1:∀ j:Int,ze (.code::atC j::h) 1=some [I j]:=fun j=>rfl
  have s1:∀ (j:Int) (ys:List MV),qe (.code::atC j::h) 1 ys=.code::.lst ys::h:=fun j ys=>rfl
  have tr:TrOk (.code::atC k::h) (.code::atC (k + 1)::h):=⟨by simp,fun i c hi e=>by
    rcases i with _ | _ | i
    · exact .inl e
    · simp at e; subst e; exact .inr ⟨[.int (k + 1)],rfl⟩
    · exact .inl (by simpa using e)⟩
  simp only [Yb,qao,Zf,zA]
  by_cases hn:ns=[]
  · subst hn
    simp [yo,Qd,m1,m2,m3,m4,ixM,YK,yR,c1,s1,qg,tr]
  · have hl:0 < ns.length:=List.length_pos_iff.mpr hn
    have e1:atM (ns.map fun i=>MV.f (.int i)) ((k + 1) % ns.length)=some (I (yR ns (k + 1))):=QY ns hn (k + 1)
    simp [yo,Qd,m1,m2,m3,m4,ixM,YK,hl,e1,c1,s1,qg,tr]
theorem QL (ns:List Int) (k room:Int) (hk:0≤k) (hk2:k < 1000000) (hr:0 < room):∃ v:Int,0≤v∧(v < room∨v < 10000000000000000000000000)∧run prog (n + 2) "_law_great" [.f (.scr ns),.ref 1,I room] (.code::atC k::h)=.ok (I v) (.code::atC (k + 1)::h):=by
  have N:=yk n h ns k hk hk2
  have hd:=Yo ns (k + 1)
  generalize YK ns (k + 1)=x at N hd
  have hp:∀ hh,zf true .pow (I 10) (I 25) hh=.ok (I 10000000000000000000000000) hh:=fun hh=>Yav true 10 25 (by decide)
  have hp2:∀ hh,zf true .pow (I 10) (I 14) hh=.ok (I 100000000000000) hh:=fun hh=>Yav true 10 14 (by decide)
  have m5:zau x 5:=⟨by decide,.inl (by decide)⟩
  have mu:Zw x 100000000000000:=.inl (by omega)
  have c1:∀ j:Int,ze (.code::atC j::h) 1=some [I j]:=fun j=>rfl
  have tr:TrOk (.code::atC k::h) (.code::atC (k + 1)::h):=⟨by simp,fun i c hi e=>by
    rcases i with _ | _ | i
    · exact .inl e
    · simp at e; subst e; exact .inr ⟨[.int (k + 1)],rfl⟩
    · exact .inl (by simpa using e)⟩
  rw [Zac]
  simp only [d__law_great]
  by_cases c:0 < x % 5
  · have:=Yi (x / 5) room hr
    refine ⟨x / 5 % room,this.1,.inl this.2,?_⟩
    by_cases hn:ns=[]
    · subst hn
      simp [N,Qd,zg,m5,c,hr,qg,tr]
    · have hl:0 < ns.length:=List.length_pos_iff.mpr hn
      simp [N,Qd,zg,m5,c,hr,hl,QY ns hn (k + 1),c1,qg,tr]
  · by_cases hn:ns=[]
    · subst hn
      have:=Yi (0 % 10000000000000000000000000 + x * 100000000000000) 10000000000000000000000000 (by decide)
      refine ⟨_,this.1,.inr this.2,?_⟩
      simp [N,Qd,yo,mu,c,hp,hp2,qg,tr]
    · have hl:0 < ns.length:=List.length_pos_iff.mpr hn
      have:=Yi (yR ns (k + 1) % 10000000000000000000000000 + x * 100000000000000) 10000000000000000000000000 (by decide)
      refine ⟨_,this.1,.inr this.2,?_⟩
      simp [N,Qd,yo,mu,c,hp,hp2,hl,QY ns hn (k + 1),c1,qg,tr]
end
end MP
end
section
set_option maxHeartbeats 2000000
namespace MP
open PySem
section
variable (n:Nat) (h:MH)
theorem Zbn (ns:List Int) (k:Int) (hk:0≤k) (hk2:k + 1 < 1000000):∃ c:Int,1≤c∧c≤100000000000000000000000000∧run prog (n + 3) "_law_most" [.f (.scr ns),.ref 1] (.code::atC k::h)=.ok (I c) (.code::atC (k + 1 + 1)::h):=by
  have N:=yk (n + 1) h ns k hk (by omega)
  obtain ⟨g,g0,g1,G⟩:=QL n h ns (k + 1) 999 (by omega) (by omega) (by decide)
  have hd:=Yo ns (k + 1)
  generalize YK ns (k + 1)=x at N hd
  have d7:∀ hh,zf true .fdiv (I x) (I 7) hh=.ok (I (x / 7)) hh:=fun hh=>zg _ _ _ ⟨by decide,.inl (by decide)⟩
  have h7:=Yi x 7 (by decide)
  have hp:∀ hh,zf true .pow (I 10) (I 24) hh=.ok (I 1000000000000000000000000) hh:=fun hh=>Yav true 10 24 (by decide)
  obtain ⟨c,c1,c2,e⟩:∃ c:Int,1≤c∧c≤100000000000000000000000000∧atM [I 1,I 2,I 3,I 255,I 9,I (1 + x / 7 % 40),I (1 + g + 1000000000000000000000000)] (x % 7)=some (I c):=by
    obtain ⟨w,hw,e⟩:=YW [I 1,I 2,I 3,I 255,I 9,I (1 + x / 7 % 40),I (1 + g + 1000000000000000000000000)] _ h7.1 (by simpa using h7.2)
    simp only [List.mem_cons,List.not_mem_nil,or_false] at hw
    rcases hw with rfl | rfl | rfl | rfl | rfl | rfl | rfl
    all_goals exact ⟨_,by omega,by omega,e⟩
  refine ⟨c,c1,c2,?_⟩
  rw [yap]
  simp only [d__law_most]
  simp [N,d7,Qd,G,hp,Qh,e,Qav]
theorem Zbl (ns:List Int) (k:Int) (hk:0≤k) (hk2:k < 1000000):∃ H W:Nat,1≤H∧H≤60∧1≤W∧W≤60∧H * W≤60∧run prog (n + 2) "_law_size" [.f (.scr ns),.ref 1,I 60] (.code::atC k::h)=.ok (.f (.tup [.int H,.int W])) (.code::atC (k + 1)::h):=by
  have N:=yk n h ns k hk hk2
  have hd:=Yo ns (k + 1)
  generalize YK ns (k + 1)=x at N hd
  have d6:∀ hh,zf true .fdiv (I x) (I 6) hh=.ok (I (x / 6)) hh:=fun hh=>zg _ _ _ ⟨by decide,.inl (by decide)⟩
  have d100:∀ hh,zf true .fdiv (I x) (I 100) hh=.ok (I (x / 100)) hh:=fun hh=>zg _ _ _ ⟨by decide,.inl (by decide)⟩
  have d7000:∀ hh,zf true .fdiv (I x) (I 7000) hh=.ok (I (x / 7000)) hh:=fun hh=>zg _ _ _ ⟨by decide,.inl (by decide)⟩
  have h6:=Yi x 6 (by decide)
  obtain ⟨a,a1,a2,e⟩:∃ a:Int,1≤a∧a≤12∧atM [I 1,I 2,I 3,I 5,I 8,I (1 + x / 6 % 12)] (x % 6)=some (I a):=by
    obtain ⟨w,hw,e⟩:=YW [I 1,I 2,I 3,I 5,I 8,I (1 + x / 6 % 12)] _ h6.1 (by simpa using h6.2)
    simp only [List.mem_cons,List.not_mem_nil,or_false] at hw
    rcases hw with rfl | rfl | rfl | rfl | rfl | rfl
    all_goals exact ⟨_,by omega,by omega,e⟩
  have da:∀ hh,zf true .fdiv (I 60) (I a) hh=.ok (I (60 / a)) hh:=fun hh=>zg _ _ _ ⟨by omega,.inl (by omega)⟩
  have q1:5≤60 / a:=by rw [Int.le_ediv_iff_mul_le (by omega)]; omega
  have q2:a * (60 / a)≤60:=Int.mul_ediv_self_le (by omega)
  have mx:∀ hh,Yv true "max" [I 1,I (60 / a)] hh=.ok (I (60 / a)) hh:=fun hh=>by
    simp [Yv]; omega
  have mm:∀ hh,zf true .mod (I (x / 100)) (I (60 / a)) hh=.ok (I (x / 100 % (60 / a))) hh:=fun hh=>Qd _ _ _ (by omega)
  have hb:=Yi (x / 100) (60 / a) (by omega)
  generalize x / 100 % (60 / a)=b at mm hb
  have hab:a * (1 + b)≤60:=Int.le_trans (Int.mul_le_mul_of_nonneg_left (by omega) (by omega)) q2
  have hb60:1 + b≤60:=by
    have:1 * (1 + b)≤a * (1 + b):=Int.mul_le_mul_of_nonneg_right a1 (by omega)
    omega
  obtain ⟨A,rfl⟩:=Int.eq_ofNat_of_zero_le (show 0≤a by omega)
  obtain ⟨B,hB⟩:=Int.eq_ofNat_of_zero_le (show 0≤1 + b by omega)
  rw [hB] at hab hb60
  have hAB:A * B≤60:=by exact_mod_cast hab
  by_cases c:x / 7000 % 2=0
  · refine ⟨B,A,by omega,by omega,by omega,by omega,by rw [Nat.mul_comm]; exact hAB,?_⟩
    rw [YO]
    simp only [d__law_size]
    simp [N,d6,d100,d7000,Qd,Qh,e,da,mx,mm,hB,c,Zg,Qav]
  · refine ⟨A,B,by omega,by omega,by omega,by omega,hAB,?_⟩
    rw [YO]
    simp only [d__law_size]
    simp [N,d6,d100,d7000,Qd,Qh,e,da,mx,mm,hB,c,Zg,Qav]
theorem ybu (ns:List Int) (k most:Int) (hk:0≤k) (hk2:k + 10 < 1000000) (hm:1≤most) :
    Ret (run prog (n + 2) "_law_inks" [.f (.scr ns),.ref 1,I most] (.code::atC k::h)) fun v h'=>∃ (inks:List Int) (kk:Int),Inks most inks∧inks.length≤8∧k≤kk∧kk≤k + 7∧v=.f (Qa false inks)∧h'=.code::atC kk::h:=by
  refine Ret.of fun Q hQ=>?_
  have N:=yk n h ns k hk (by omega)
  have hd:=Yo ns (k + 1)
  generalize YK ns (k + 1)=x at N hd
  have h5:=Yi x 5 (by decide)
  obtain ⟨T,hT⟩:=Int.eq_ofNat_of_zero_le h5.1
  have m5:∀ hh,zf true .mod (I x) (I 5) hh=.ok (I (x % 5)) hh:=fun hh=>Qd _ _ _ (by decide)
  have d2:∀ hh,zf true .fdiv (I most) (I 2) hh=.ok (I (most / 2)) hh:=fun hh=>zg _ _ _ ⟨by decide,.inl (by decide)⟩
  rw [qan]
  simp only [d__law_inks]
  have cl0:=fun a b ks=>Zcb a b h [] ks
  have st0:=fun a b c d=>setD2 a b h [] c d
  simp [N,dset2,cl0,st0,m5,hT,Qk _ (T:Int) (by omega)]
  refine Yp (Q:=fun r=>Ret (Zd _ r) _) T (fun i σ hh=>∃ (ks:List Int) (z5 z6:Option MV),DicK most ks (2 + i)∧hh=.code::atC (k + 1 + (i:Int))::(h++[.dic ks])∧σ=[some (.f (.scr ns)),some (.ref 1),some (I most),some (I x),some (.ref (h.length + 2)),z5,z6]) ?_ ?_ ?_
  · exact ⟨_,none,none,DicK.start hm,by simp,rfl⟩
  · rintro i σ hh hil ⟨ks,z5,z6,d,rfl,rfl⟩ Q hQ
    have N:=yk n (h++[.dic ks]) ns (k + 1 + i) (by omega) (by omega)
    have hd:=Yo ns (k + 1 + i + 1)
    generalize YK ns (k + 1 + i + 1)=y at N hd
    have bm:∀ hh,zf true .mod (I (y * 7919)) (I (most + 1)) hh=.ok (I (y * 7919 % (most + 1))) hh:=fun hh=>Qd _ _ _ (by omega)
    have hv:=Yi (y * 7919) (most + 1) (by omega)
    have mul1:Zw y 7919:=yx (by decide)
    have di:∀ hh,zf true .fdiv (I most) (I ((i:Int) + 2)) hh=.ok (I (most / ((i:Int) + 2))) hh:=fun hh=>zg _ _ _ ⟨by omega,.inl (by omega)⟩
    have q0:0≤most / ((i:Int) + 2):=Int.ediv_nonneg (by omega) (by omega)
    have q1:most / ((i:Int) + 2)≤most:=Int.ediv_le_self _ (by omega)
    have h3:=Yi y 3 (by decide)
    obtain ⟨v,v0,v1,ev⟩:∃ v:Int,0≤v∧v≤most∧atM [I (y * 7919 % (most + 1)),I (most / 2),I (most / ((i:Int) + 2))] (y % 3)=some (I v):=by
      obtain ⟨w,hw,e⟩:=YW [I (y * 7919 % (most + 1)),I (most / 2),I (most / ((i:Int) + 2))] _ h3.1 (by simpa using h3.2)
      simp only [List.mem_cons,List.not_mem_nil,or_false] at hw
      rcases hw with rfl | rfl | rfl
      all_goals exact ⟨_,by omega,by omega,e⟩
    have cl:=cl0 .code (atC (k + 1 + (i:Int) + 1)) ks
    have sl:ks.length < 1000000:=by have:=d.sz; omega
    have st:=st0 .code (atC (k + 1 + (i:Int) + 1)) (.dic ks) (.dic (zu ks v))
    simp only [List.set_cons_succ] at st
    simp [Zi,N,bm,yo,Qd,mul1,d2,di,Qh,ev,cl,sl,st]
    exact hQ _ _ ⟨zu ks v,_,_,d.add ⟨v0,v1⟩,by simp; omega,rfl⟩
  · rintro σ hh ⟨ks,z5,z6,d,rfl,rfl⟩
    have cl:=cl0 .code (atC (k + 1 + (T:Int))) ks
    have sl:ks.length < 64:=by have:=d.sz; omega
    have F:=ZY .code (atC (k + 1 + (T:Int))) (h++[.dic ks]) ((qJ ks).map FV.int)
    have er:FV.lst ((qJ ks).map FV.int)=Qa false (qJ ks):=rfl
    have lv:=Yak k (k + 1 + (T:Int)) h [.dic ks,.dead] (Qa false (qJ ks))
    simp only [List.map_map] at F
    simp [srtK,cl,sl,Function.comp_def] at F ⊢
    simp [F,er,lv]
    have hs:=d.sz
    exact hQ _ _ ⟨qJ ks,_,d.inks (by omega),by rw [(qP ks).length_eq]; omega,by omega,by omega,rfl,rfl⟩
end
end MP
end
section
set_option maxHeartbeats 2000000
namespace MP
open PySem
section
variable (n:Nat) (h:MH)
theorem QaW (ns:List Int) (k:Int) (most:Int) (I0 J0:Nat) (hk:0≤k) (hk2:k + 1 + (I0 * J0:Nat) < 1000000) (hm:1≤most) (hi:I0≤1000) (hi0:1≤I0) (hj:J0≤1000) :
    Ret (run prog (n + 2) "_law_shades" [.f (.scr ns),.ref 1,I most,I I0,I J0] (.code::atC k::h)) fun v h'=>∃ rows kk,Drawn most rows I0 J0∧k≤kk∧kk≤k + 1 + (I0 * J0:Nat)∧v=.ref (h.length + 2)∧h'=.code::atC kk::qm 2 h rows:=by
  refine Ret.of fun Q hQ=>?_
  have N0:=yk n h ns k hk (by omega)
  have hd:=Yo ns (k + 1)
  generalize YK ns (k + 1)=x at N0 hd
  have m3:zau x 3:=⟨by decide,.inl (by decide)⟩
  have m2:zau most 2:=⟨by decide,.inl (by decide)⟩
  have mp:0 < most + 1:=by omega
  have hs:=Yi (x / 3) (most + 1) mp
  generalize hf:(x / 3) % (most + 1)=f3 at hs
  rw [yaa]
  simp only [d__law_shades]
  simp [N0,zg,yo,Qd,m3,m2,mp,hf,Qh,Qk _ (I0:Int) (by omega)]
  refine Yp (Q:=fun r=>Ret (Zd _ r) _) I0 (fun i σ hh=>∃ kk rows z8 z9 z10,k + 1≤kk∧kk≤k + 1 + (i * J0:Nat)∧Drawn most rows i J0∧hh=.code::atC kk::qm 2 h rows ∧
    σ=[some (.f (.scr ns)),some (.ref 1),some (I most),some (I I0),some (I J0),some (I x),some (.f (.lst [.int 0,.int most,.int (most / 2),.int f3])),some (.ref (h.length + 2)),z8,z9,z10]) ⟨k + 1,[],none,none,none,by omega,by simp,⟨rfl,by simp,by simp⟩,by simp [qm,zm],rfl⟩ ?_ ?_
  · rintro i σ hh hil ⟨kk,rows,z8,z9,z10,hk1,hkk,d,rfl,rfl⟩ Q hQ
    have hij:(i + 1) * J0≤I0 * J0:=Nat.mul_le_mul_right _ hil
    rw [Nat.add_mul] at hij
    have hrl:rows.length < sizeL:=by rw [yi,d.len]; omega
    have hG:qm 2 h rows=qm 2 h rows:=rfl
    have lG:(qm 2 h rows).length=h.length + 1 + rows.length:=by simp [qm]; omega
    simp [Zi,Qk _ (J0:Int) (by omega)]
    refine Yp (Q:=fun r=>Nx r _) J0 (fun j σ hh=>∃ kj r z10,kk≤kj∧kj≤kk + (j:Int)∧(r.length=j∧∀ v∈r,0≤v∧v≤most)∧hh=.code::atC kj::(qm 2 h rows++[zae r]) ∧
      σ=[some (.f (.scr ns)),some (.ref 1),some (I most),some (I I0),some (I J0),some (I x),some (.f (.lst [.int 0,.int most,.int (most / 2),.int f3])),some (.ref (h.length + 2)),some (I i),some (.ref ((qm 2 h rows).length + 2)),z10]) ⟨kk,[],z10,by omega,by simp,⟨rfl,by simp⟩,by simp,rfl⟩ ?_ ?_
    · rintro j σ hh hjl ⟨kj,r,z10,hkj1,hkj,⟨hr1,hr2⟩,rfl,rfl⟩ Q hQ
      generalize hg:qm 2 h rows=g at *
      have N:=yk n (g++[zae r]) ns kj (by omega) (by omega)
      have hd2:=Yo ns (kj + 1)
      generalize YK ns (kj + 1)=y at N hd2
      have hl:r.length < sizeL:=by rw [yi]; omega
      have c0:=Z6 .code (atC kj) g [] (r.map fun i=>MV.f (.int i))
      have c1:=Z6 .code (atC (kj + 1)) g [] (r.map fun i=>MV.f (.int i))
      have s0:=fun ys=>ya8 .code (atC kj) g [] (r.map fun i=>MV.f (.int i)) ys
      have s1:=fun ys=>ya8 .code (atC (kj + 1)) g [] (r.map fun i=>MV.f (.int i)) ys
      have mul1:Zw y 7919:=yx (by decide)
      have app:∀ v,(0≤v∧v≤most)→∀ w∈r++[v],0≤w∧w≤most:=fun v hv w hw=>by
        rcases List.mem_append.mp hw with hw | hw
        · exact hr2 w hw
        · simp at hw; subst hw; exact hv
      by_cases a1:x % 3=0
      · have e3:atM [I 0,I most,I (most / 2),I f3] 3=some (I f3):=rfl
        simp [Zi,Qd,a1,c0,e3,hl,s0]
        exact hQ _ _ ⟨kj,r++[f3],_,by omega,by omega,⟨by simp [hr1],app f3 (by omega)⟩,by simp,rfl⟩
      · by_cases a2:x % 3=1
        · have h4:=Yi y 4 (by decide)
          obtain ⟨v,hv,ev⟩:∃ v:Int,(0≤v∧v≤most)∧atM [I 0,I most,I (most / 2),I f3] (y % 4)=some (I v):=by
            have:y % 4=0∨y % 4=1∨y % 4=2∨y % 4=3:=by omega
            rcases this with e | e | e | e <;> rw [e]
            · exact ⟨0,by omega,rfl⟩
            · exact ⟨most,by omega,rfl⟩
            · exact ⟨most / 2,by omega,rfl⟩
            · exact ⟨f3,by omega,rfl⟩
          simp [Zi,Qd,a2,c0,N,c1,ev,hl,s1]
          exact hQ _ _ ⟨kj + 1,r++[v],_,by omega,by omega,⟨by simp [hr1],app v hv⟩,by simp,rfl⟩
        · have hv:=Yi (y * 7919 + x) (most + 1) mp
          generalize hvv:(y * 7919 + x) % (most + 1)=v at hv
          simp [Zi,Qd,yo,a1,a2,c0,N,c1,mul1,mp,hvv,hl,s1]
          exact hQ _ _ ⟨kj + 1,r++[v],_,by omega,by omega,⟨by simp [hr1],app v (by omega)⟩,by simp,rfl⟩
    · rintro σ hh ⟨kj,r,z10,hkj1,hkj,⟨hr1,hr2⟩,rfl,rfl⟩
      have c0:ze (.code::atC kj::(qm 2 h rows++[zae r])) (h.length + 2)=some (zm (h.length + 3) rows.length):=by
        have:=Z6 .code (atC kj) h (rows.map zae++[zae r]) (zm (h.length + 3) rows.length)
        simpa [qm] using this
      have s0:qe (.code::atC kj::(qm 2 h rows++[zae r])) (h.length + 2) (zm (h.length + 3) rows.length++[.ref ((qm 2 h rows).length + 2)])=.code::atC kj::qm 2 h (rows++[r]):=by
        have:=ya8 .code (atC kj) h (rows.map zae++[zae r]) (zm (h.length + 3) rows.length) (zm (h.length + 3) rows.length++[.ref ((qm 2 h rows).length + 2)])
        have e2:zm (h.length + 3) rows.length++[.ref ((qm 2 h rows).length + 2)]=zm (h.length + 3) (rows.length + 1):=by
          rw [← QaX,lG]
          congr 3
          omega
        rw [e2] at this ⊢
        simpa [qm] using this
      have hrl':(zm (h.length + 3) rows.length).length < sizeL:=by simpa [zm] using hrl
      simp [c0,hrl',s0]
      exact hQ _ _ ⟨kj,rows++[r],_,_,_,by omega,by rw [Nat.add_mul]; omega,d.snoc ⟨hr1,hr2⟩,rfl,rfl⟩
  · rintro σ hh ⟨kk,rows,z8,z9,z10,hk1,hkk,d,rfl,rfl⟩
    have lv:=QaZ (h:=.code::atC k::h) (ZW .code (atC kk) h rows) (by rw [d.len]; omega)
    simp [lv]
    exact hQ _ _ ⟨rows,kk,d,by omega,by omega,rfl,rfl⟩
theorem Drawn.set {most:Int} {rows:List (List Int)} {i j a b:Nat} {v:Int} (d:Drawn most rows i j) (hv:0≤v∧v≤most):Drawn most (yr rows a b v) i j:=by
  refine ⟨by rw [YD,d.len],fun r hr=>?_,fun r hr w hw=>?_⟩
  · rcases QD hr with hr | ⟨r0,hr0,rfl⟩
    · exact d.wid r hr
    · simp [d.wid r0 hr0]
  · rcases QD hr with hr | ⟨r0,hr0,rfl⟩
    · exact d.sh r hr w hw
    · rcases List.mem_or_eq_of_mem_set hw with hw | rfl
      · exact d.sh r0 hr0 w hw
      · exact hv
theorem yah (ns:List Int) (k:Int) (hk:0≤k) (hk2:k + 1000 < 1000000) :
    Ret (run prog (n + 4) "_law_plain_case" [.f (.scr ns),.ref 1] (.code::atC k::h)) fun v h'=>∃ most rows inks kk H W,1≤most∧most≤100000000000000000000000000∧1≤H∧H≤60∧1≤W∧W≤60∧H * W≤60∧Drawn most rows H W∧Inks most inks∧inks.length≤8∧k≤kk∧kk≤k + 200 ∧
      v=.f (.tup [.int most,Yd false false rows,Qa false inks])∧h'=.code::atC kk::h:=by
  refine Ret.of fun Q hQ=>?_
  obtain ⟨most,m1,m2,M⟩:=Zbn n h ns k hk (by omega)
  obtain ⟨H,W,h1,h2,w1,w2,hw,S⟩:=Zbl (n + 1) h ns (k + 1 + 1) (by omega) (by omega)
  obtain ⟨v,h',S2,rows,kk,d,k1,k2,rfl,rfl⟩:=QaW (n + 1) h ns (k + 1 + 1 + 1) most H W (by omega) (by omega) m1 (by omega) h1 (by omega)
  obtain ⟨v,h',S3,inks,k3,K,il,k4,k5,rfl,rfl⟩:=ybu (n + 1) (qm 2 h rows) ns kk most (by omega) (by omega) m1
  have N:=yk (n + 2) (qm 2 h rows) ns k3 (by omega) (by omega)
  have hd:=Yo ns (k3 + 1)
  generalize YK ns (k3 + 1)=x at N hd
  have h6:=Yi x 6 (by decide)
  obtain ⟨T,hT⟩:=Int.eq_ofNat_of_zero_le h6.1
  have m6:∀ hh,zf true .mod (I x) (I 6) hh=.ok (I (x % 6)) hh:=fun hh=>Qd _ _ _ (by decide)
  have il2:2≤inks.length:=by
    rcases inks with _ | ⟨a,_ | ⟨b,r⟩⟩
    · simp at *; exact absurd K.z (by simp)
    · have z:=K.z; have m:=K.m
      simp at z m; omega
    · simp
  rw [ZN]
  simp only [d__law_plain_case]
  simp [M,S,S2,S3,N,m6,hT,Qk _ (T:Int) (by omega)]
  refine Yp (Q:=fun r=>Ret (Zd _ r) _) T (fun i σ hh=>∃ rows z6 z7 z8 z9,Drawn most rows H W∧hh=.code::atC (k3 + 1 + (i:Int))::qm 2 h rows∧σ=[some (.f (.scr ns)),some (.ref 1),some (I most),some (.f (.tup [.int H,.int W])),some (.ref (h.length + 2)),some (.f (Qa false inks)),z6,z7,z8,z9]) ⟨rows,none,none,none,none,d,by simp,rfl⟩ ?_ ?_
  · rintro i σ hh hil ⟨rows,z6,z7,z8,z9,d,rfl,rfl⟩ Q hQ
    have N:=yk (n + 2) (qm 2 h rows) ns (k3 + 1 + i) (by omega) (by omega)
    have hd:=Yo ns (k3 + 1 + i + 1)
    generalize YK ns (k3 + 1 + i + 1)=y at N hd
    have dv:∀ j:Int,0 < j→j < 1073741824→∀ hh,zf true .fdiv (I y) (I j) hh=.ok (I (y / j)) hh:=fun j a b hh=>zg _ _ _ ⟨a,.inl b⟩
    have d100:=dv 100 (by decide) (by decide)
    have d300:=dv 300 (by decide) (by decide)
    have d20000:=dv 20000 (by decide) (by decide)
    have mi:∀ hh,zf true .mod (I y) (I ((inks.length:Int) - 1)) hh=.ok (I (y % ((inks.length:Int) - 1))) hh:=fun hh=>Qd _ _ _ (by omega)
    have ho:=Yi y ((inks.length:Int) - 1) (by omega)
    generalize y % ((inks.length:Int) - 1)=o at mi ho
    have mH:∀ hh,zf true .mod (I (y / 300)) (I (H:Int)) hh=.ok (I (y / 300 % (H:Int))) hh:=fun hh=>Qd _ _ _ (by omega)
    have mW:∀ hh,zf true .mod (I (y / 20000)) (I (W:Int)) hh=.ok (I (y / 20000 % (W:Int))) hh:=fun hh=>Qd _ _ _ (by omega)
    have hH:=Yi (y / 300) (H:Int) (by omega)
    have hW:=Yi (y / 20000) (W:Int) (by omega)
    generalize y / 300 % (H:Int)=a at mH hH
    generalize y / 20000 % (W:Int)=b at mW hW
    obtain ⟨A,rfl⟩:=Int.eq_ofNat_of_zero_le hH.1
    obtain ⟨B,rfl⟩:=Int.eq_ofNat_of_zero_le hW.1
    obtain ⟨O,rfl⟩:=Int.eq_ofNat_of_zero_le ho.1
    have a1:atM ((inks.map FV.int).map MV.f) (O:Int)=some (I (inks.getD O 0)):=by
      rw [yA _ _ (by omega)]; simp [List.getD,List.getElem?_eq_getElem (show O < inks.length by omega)]
    have a2:atM ((inks.map FV.int).map MV.f) ((O:Int) + 1)=some (I (inks.getD (O + 1) 0)):=by
      rw [yA _ _ (by omega),show ((O:Int) + 1).toNat=O + 1 by omega]; simp [List.getD,List.getElem?_eq_getElem (show O + 1 < inks.length by omega)]
    simp only [List.map_map] at a1 a2
    generalize inks.getD O 0=q1 at a1
    generalize inks.getD (O + 1) 0=q2 at a2
    have dq:∀ hh,zf true .fdiv (I (q1 + q2)) (I 2) hh=.ok (I ((q1 + q2) / 2)) hh:=fun hh=>zg _ _ _ ⟨by decide,.inl (by decide)⟩
    generalize hmid:(q1 + q2) / 2 + y / 100 % 3 - 1=mid
    obtain ⟨v,v0,v1,ev⟩:∃ v:Int,0≤v∧v≤most∧(if 0 < (if mid < most then mid else most) then (if mid < most then mid else most) else 0)=v:=by
      refine ⟨_,?_,?_,rfl⟩ <;> split <;> split <;> omega
    obtain ⟨row,eA⟩:∃ row,rows[A]?=some row:=⟨_,List.getElem?_eq_getElem (show A < rows.length by rw [d.len]; omega)⟩
    have lA:row.length=W:=d.wid _ (List.mem_of_getElem? eA)
    have tp:=ZW .code (atC (k3 + 1 + (i:Int) + 1)) h rows
    have ar:atM (zm (h.length + 3) rows.length) (A:Int)=some (.ref (h.length + 3 + A)):=by
      rw [yA _ _ (by omega)]; simp [zm,show A < rows.length by rw [d.len]; omega]
    have cr:=Zaj .code (atC (k3 + 1 + (i:Int) + 1)) h rows A _ eA
    have ix:ixM W (B:Int)=some B:=by simp [ixM]; omega
    have sr:=Qbr .code (atC (k3 + 1 + (i:Int) + 1)) h rows A (row.set B v) (by rw [d.len]; omega)
    rw [List.map_set] at sr
    have es:rows.set A (row.set B v)=yr rows A B v:=by
      unfold yr
      rw [List.modify_eq_set,eA]; rfl
    rw [es] at sr
    simp [Zi,N,d100,d300,d20000,mi,mH,mW,Qa,sq,a1,a2,dq,Qd,hmid,ev,tp,ar,cr,lA,ix,sr]
    exact hQ _ _ ⟨yr rows A B v,_,_,_,_,d.set ⟨v0,v1⟩,by simp; omega,rfl⟩
  · rintro σ hh ⟨rows,z6,z7,z8,z9,d,rfl,rfl⟩
    obtain ⟨t',F⟩:=Zbs .code (atC (k3 + 1 + (T:Int))) h rows
    have lv:=Yak k (k3 + 1 + (T:Int)) h t' (.tup [.int most,Yd false false rows,Qa false inks])
    simp [F,Zg,Qh,lv]
    exact hQ _ _ ⟨most,rows,inks,_,H,W,m1,m2,h1,h2,w1,w2,hw,d,K,il,by omega,by omega,rfl,rfl⟩
end
section
variable (n:Nat) (h:MH)
theorem qaw (b1 b2:Bool) (rows:List (List Int)) (hl:rows.length≤sizeL):run prog (n + 1) "own_rows" [.f (Yd b1 b2 rows)] h=.ok (.f (Yd true true rows)) h:=by
  simp [Yb,yG,itV,Yd,stM]
  rw [yD (e:=MV.f∘Qa b2) (g:=MV.f∘Qa true) rows [] none (by simpa using hl) (fun y _ z=>⟨_,by simp [qq,Qa]; exact ⟨rfl,rfl⟩⟩)]
  simp [Yd,Qa,sq]
theorem zac (most:Int) (rows:List (List Int)) (g:Good most rows):run prog (n + 1) "fault_of" [.f (Yd true true rows),I 0,I most] h=.ok (.f .non) h:=by
  obtain ⟨m1,ne,⟨w,w0,hw⟩,sh,sz⟩:=g
  cases rows with
  | nil=>exact absurd rfl ne
  | cons r0 rs =>
    have hr0:=hw r0 (by simp)
    have e1:¬ most < 1:=by omega
    have e2:r0≠[]:=by intro e; subst e; simp at hr0; omega
    have e7:yb h (.f (Qa true r0))=some (r0.map (MV.f∘FV.int)):=by simp [Qa]
    simp [Yb,QG,e1,Yd,e7,e2]
    rw [← Function.comp_apply (f:=MV.f) (g:=Qa true),← List.map_cons (f:=MV.f∘Qa true),zM (e:=MV.f∘Qa true) (st:=fun z=>[some (.f (sq true (Qa true r0::rs.map (Qa true)))),some (I 0),some (I most),z]) (hp:=fun _=>h) (f:=fun _ r=>some (.f (Qa true r))) _ none]
    · simp
    · intro r hr z
      have e3:=hw r hr
      have e4:r≠[]:=by intro e; subst e; simp at e3; omega
      have e5:¬ Ybc r < 0:=by have:=sh r hr _ (yad e4); omega
      have e6:¬ most < YX r:=by have:=sh r hr _ (yai e4); omega
      have q1:=qaJ true h (.f (Qa true r)) r (by simp [Qa]) e4
      have q2:=yaG true h (.f (Qa true r)) r (by simp [Qa]) e4
      have q3:yb h (.f (Qa true r))=some (r.map (MV.f∘FV.int)):=by simp [Qa]
      simp [Zi,q1,q2,q3,e5,e6,e7,e3,hr0]
theorem Z2 (most:Int) (b1 b2:Bool) (rows:List (List Int)) (g:Good most rows):run prog (n + 2) "Picture.__init__" [.ref h.length,I most,.f (Yd b1 b2 rows)] (h++[.obj "Picture" []]) =
    .ok (.f .non) (h++[.obj "Picture" [("most",I most),("rows",.f (Yd true true rows))]]):=by
  have hz:rows.length≤sizeL:=Nat.le_trans g.sz (by decide)
  have t:=TrOk.obj h "Picture" [("most",.int most),("rows",Yd true true rows)] []
  simp only [List.map_cons,List.map_nil] at t
  simp [Yb n.succ,Zk,qaw _ _ b1 b2 rows hz,zac _ _ most rows g,qg,t]
  exact List.take_of_length_le (by simp)
theorem YE (most:Int) (b1 b2:Bool) (rows:List (List Int)) (g:Good most rows):Z5 prog (run prog (n + 2)) true "Picture" [I most,.f (Yd b1 b2 rows)] h=.ok (.f (Zn most rows)) h:=by
  simp [Z5,Z2 n h most b1 b2 rows g,TrOk.app,Zn,Qh]
theorem yaK (m:Int) (rows:List (List Int)):run prog (n + 1) "high" [.f (Zn m rows)] h=.ok (I rows.length) h:=by
  simp [Yb,qaA,Zn,Yd]
theorem QaK (m:Int) (r:List Int) (rows:List (List Int)):run prog (n + 1) "wide" [.f (Zn m (r::rows))] h=.ok (I r.length) h:=by
  simp [Yb,Zaz,Zn,Yd,Qa]
end
section
variable (n:Nat) (h:MH)
theorem qS (m i j:Int) (r:List Int) (rows:List (List Int)):run prog (n + 2) "has_cell" [.f (Zn m (r::rows)),.f (.tup [.int i,.int j])] h=.ok (B (decide (0≤i∧i < rows.length + 1∧0≤j∧j < r.length))) h:=by
  simp [Yb n.succ,QE,yaK,QaK,Bool.and_assoc]
theorem qav (m i j:Int) (r:List Int) (rows:List (List Int)):run prog (n + 3) "ask_cell" [.f (Zn m (r::rows)),.f (.tup [.int i,.int j])] h =
    if 0≤i∧i < rows.length + 1∧0≤j∧j < r.length then .ok (.f .non) h else .exc "OutOfPicture" h:=by
  by_cases c:0≤i∧i < rows.length + 1∧0≤j∧j < r.length
  · rw [if_pos c]; simp [Yb n.succ.succ,Zy,qS,c]
  · rw [if_neg c]
    have:=qS n h m i j r rows
    rw [decide_eq_false c] at this
    simp [Yb n.succ.succ,Zy,this]
end
end MP
end
section
set_option maxHeartbeats 2000000
namespace MP
open PySem
theorem ZaQ (h:MH) (a:Nat) (xs:List FV):lmV "extend" (.ref a) [.f (.lst xs)] h=opt (ze h a) fun ys=>if ys.length + xs.length≤sizeL then .ok (.f .non) (qe h a (ys++xs.map .f)) else .stuck:=by
  have:lmV "extend" (.ref a) [.f (.lst xs)] h=opt (ze h a) fun ys=>opt (listOf h (.f (.lst xs))) fun zs=>if ys.length + zs.length≤sizeL then .ok (.f .non) (qe h a (ys++zs)) else .stuck:=rfl
  rw [this]
  cases ze h a with
  | none=>rfl
  | some ys=>simp
section
variable (n:Nat) (h:MH)
theorem Ya9 (xs:List FV):qg h (.ref h.length) (h++[.lst (xs.map .f)])=.ok (.ref h.length) (h++[.lst (xs.map .f)]):=by
  have cl:=Zx h [] (xs.map MV.f)
  have tr:=TrOk.app h [.lst (xs.map MV.f)]
  have ef:=qar xs
  generalize xs.map MV.f=M at *
  simp [qg,cl,tr,ef]
theorem qV (H W:Nat) (hHW:H * W≤100000) (hW:W≤10000) (hH:H≤10000):run prog (n + 1) "cells_by_rows" [I H,I W] h=.ok (.ref h.length) (h++[.lst (((Qj H W).map zw).map .f)]):=by
  suffices Ret (run prog (n + 1) "cells_by_rows" [I H,I W] h) fun v h'=>v=.ref h.length∧h'=h++[.lst (((Qj H W).map zw).map .f)] by
    obtain ⟨v,h',e,rfl,rfl⟩:=this
    exact e
  refine Ret.of fun Q hQ=>?_
  rw [ZU]
  simp only [d_cells_by_rows]
  simp [Qk _ (H:Int) (by omega)]
  refine Yp (Q:=fun r=>Ret (Zd _ r) _) H (fun i σ hh=>∃ (z3:Option MV),hh=h++[.lst (((Qj i W).map zw).map .f)]∧σ=[some (I H),some (I W),some (.ref h.length),z3]) ⟨none,by simp [Qj],rfl⟩ ?_ ?_
  · rintro i σ hh hil ⟨z3,rfl,rfl⟩ Q hQ
    have nx:((Qj (i + 1) W).map zw).map MV.f=((Qj i W).map zw).map MV.f++(((List.range W).map fun c=>zw (i,c)).map MV.f):=by
      unfold Qj
      rw [List.range_succ,List.flatMap_append,List.map_append,List.map_append]
      simp [Function.comp_def]
    simp only [nx] at hQ
    have ml:(((Qj i W).map zw).map MV.f).length + ((List.range W).map fun c=>zw (i,c)).length≤sizeL:=by
      have:i * W≤H * W:=Nat.mul_le_mul_right _ (by omega)
      simp [Yas,yi]; omega
    generalize ((Qj i W).map zw).map MV.f=M at *
    have cl:=Zx h [] M
    have st:=fun ys=>yJ h [] M ys
    simp [Zi,cl,Qk _ (W:Int) (by omega),MP.stM]
    rw [yD (e:=fun k:Nat=>I k) (g:=fun c=>MV.f (zw (i,c))) (List.range W) [] none (by simp [yi]; omega) (fun c _ z=>⟨some (I c),by simp [qq]⟩)]
    have e2:(List.range W).map (fun c=>MV.f (zw (i,c)))=((List.range W).map fun c=>zw (i,c)).map MV.f:=by simp [Function.comp_def]
    simp only [List.nil_append,R.bind_ok,e2,Zh]
    generalize (List.range W).map (fun c=>zw (i,c))=L at *
    simp [ZaQ,cl,ml,st]
    exact hQ _ _ ⟨_,rfl,rfl⟩
  · rintro σ hh ⟨z3,rfl,rfl⟩
    have lv:=Ya9 h ((Qj H W).map zw)
    generalize ((Qj H W).map zw).map MV.f=M at *
    simp [lv]
    exact hQ _ _ ⟨rfl,rfl⟩
theorem Y6 (m:Int) (rows:List (List Int)) (hr:rows≠[]):run prog (n + 2) "size_of" [.f (Zn m rows)] h=.ok (.f (.tup [.int rows.length,.int (rows.headD []).length])) h:=by
  cases rows with
  | nil=>exact absurd rfl hr
  | cons r rs =>
    have a:=yaK n h m (r::rs)
    have b:=QaK n h m r rs
    rw [qaL]
    simp only [d_size_of]
    simp at a b
    simp [a,b]
theorem yaA (m:Int) (rows:List (List Int)) (H W:Nat) (d:Drawn m rows H W) (i j:Nat) (hi:i < H) (hj:j < W) (r:List Int) (v:Int) (er:rows[i]?=some r) (ev:r[j]?=some v):run prog (n + 4) "shade_at" [.f (Zn m rows),.f (.tup [.int i,.int j])] h=.ok (I v) h:=by
  obtain ⟨r0,rs,e0,hr0,hrs⟩:=d.cons (by omega)
  have A:=qav n h m i j r0 rs
  rw [if_pos (by omega),← e0] at A
  have p1:YaL prog.fok "rows" (.f (Zn m rows)) h=some (.f (Yd true true rows)):=by simp [Zn]
  have q1:yb h (.f (Yd true true rows))=some (rows.map (MV.f∘Qa true)):=by simp [Yd]
  have a1:atM (rows.map (MV.f∘Qa true)) (i:Int)=some (.f (Qa true r)):=by rw [Yn,List.getElem?_map,er]; rfl
  have q2:yb h (.f (Qa true r))=some (r.map (MV.f∘FV.int)):=by simp [Qa]
  have a2:atM (r.map (MV.f∘FV.int)) (j:Int)=some (I v):=by rw [Yn,List.getElem?_map,ev]; rfl
  rw [yaD]
  simp only [d_shade_at]
  simp [A,p1,q1,a1,q2,a2]
theorem Zal (most:Int) (iv:MV) (inks:List Int) (V:InkV h iv inks) (K:Inks most inks) (h1:1≤most):run prog (n + 1) "ask_rising" [iv] h=.ok (.f .non) h:=by
  have h2:=K.two h1
  have q:=V.q
  have a0:atM (inks.map (MV.f∘FV.int)) 0=some (I 0):=by
    have:=Yn (inks.map (MV.f∘FV.int)) 0
    change atM _ (0:Int)=_ at this
    rw [this,List.getElem?_map,List.getElem?_eq_getElem (by omega)]
    have e:=K.head
    simp only [List.getD,List.getElem?_eq_getElem (show 0 < inks.length by omega),Option.getD_some] at e
    simp [e]
  obtain ⟨b1,s1⟩:=V.slice (ZaD inks (by omega))
  obtain ⟨b2,s2⟩:=V.slice (Ybr inks (by omega))
  have qr:∀ b r,yb h (.f (Qa b r))=some (r.map (MV.f∘FV.int)):=fun b r=>by simp [Qa]
  have g1:∀ b r,Zc h (.f (Qa b r))=[]:=fun b r=>by simp [Qa]
  have hz:∀ p:Int×Int,p∈(inks.take (inks.length - 1)).zip (inks.drop 1)→p.1 < p.2:=by
    rintro ⟨a,b⟩ hp
    obtain ⟨i,hi⟩:=List.mem_iff_getElem?.mp hp
    rw [List.getElem?_zip_eq_some] at hi
    obtain ⟨e1,e2⟩:=hi
    simp only at e1 e2
    have l1:=(List.getElem?_eq_some_iff.mp e1).1
    rw [List.length_take] at l1
    rw [List.getElem?_take_of_lt (by omega)] at e1
    rw [List.getElem?_drop] at e2
    have:=zbQ K.up (show i < 1 + i by omega) (by omega)
    simpa [List.getD,e1,e2] using this
  generalize inks.take (inks.length - 1)=l1 at *
  generalize inks.drop 1=l2 at *
  rw [zak]
  simp only [d_ask_rising]
  simp [q,show ¬ ((inks.length:Int) < 2) by omega,a0,s1,s2,qr,g1,ybi]
  rw [zM (e:=fun p:Int×Int=>MV.f (.tup [.int p.1,.int p.2])) (st:=fun z=>[some iv,z.1,z.2]) (hp:=fun _=>h) (f:=fun _ p=>(some (I p.1),some (I p.2))) _ (none,none)]
  · simp
  · rintro ⟨a,b⟩ hp z
    have hab:a < b:=hz (a,b) hp
    simp [Zi,show ¬ b≤a by omega]
theorem qaD (most:Int) (iv:MV) (inks:List Int) (V:InkV h iv inks) (K:Inks most inks) (h1:1≤most):run prog (n + 2) "ask_inks" [iv,I most] h=.ok (.f .non) h:=by
  have h2:=K.two h1
  have R:=Zal n h most iv inks V K h1
  have q:=V.q
  have a1:atM (inks.map (MV.f∘FV.int)) (-1)=some (I most):=by
    have e:=K.last
    have hl:inks.length - 1 < inks.length:=by omega
    simp only [List.getD,List.getElem?_eq_getElem hl,Option.getD_some] at e
    unfold atM ixM
    rw [if_neg (by decide),if_pos (by simp; omega)]
    simp only [Option.bind_some,List.length_map,List.getElem?_map]
    rw [show ((-1:Int) + (inks.length:Int)).toNat=inks.length - 1 by omega,List.getElem?_eq_getElem hl]
    simp [e]
  rw [qau]
  simp only [d_ask_inks]
  simp [R,q,a1]
theorem Z9 (most:Int) (rows:List (List Int)) (b:Bool) (ps:List ((Int×Int)×Int)) (g:Good most rows) (hp:∀ p∈ps,Inn rows p.1∧0≤p.2∧p.2≤most) :
    run prog (n + 3) "with_shades" [.f (Zn most rows),.f (sq b (ps.map Q3))] h=.ok (.f (Zn most (qi rows ps))) h∧Good most (qi rows ps):=by
  have hz:rows.length≤sizeL:=Nat.le_trans g.sz (by decide)
  simp only [Yb n.succ.succ,y9,Zf,Yt]
  simp [Zn,Yd,MP.stM]
  rw [zat _ (MV.f∘Qa true) (fun r z h=>⟨some (.f (Qa true r)),by simp [qq,Qa,zO]⟩) rows [] none h (by simpa using hz)]
  simp only [R.bind_ok,QaT,R.st_ok,List.nil_append]
  have eo:(h++rows.map zO)++[.lst ((List.range rows.length).map fun i=>MV.ref (h.length + i))]=own h rows:=by simp [own]
  have el:(h++rows.map zO).length=h.length + rows.length:=by simp
  rw [eo,el]
  have L:=zal (bd:=Zi (.tp [.nm 3,.nm 4]) (qb prog (run prog (n + 1 + 1)) [MS.setSub ((ME.var 2).sub ((ME.var 3).sub (ME.cI 0))) ((ME.var 3).sub (ME.cI 1)) (ME.var 4)])) (e:=MV.f∘Q3)
    (st:=fun b':List (List Int)×Option MV×Option MV=>[some (MV.f (FV.obj "Picture" ["most","rows"] [FV.int most,sq true (List.map (Qa true) rows)])),some (MV.f (sq b (List.map Q3 ps))),some (MV.ref (List.length h + rows.length)),b'.2.1,b'.2.2]) (hp:=fun b'=>own h b'.1)
    (f:=fun b' p=>(yr b'.1 p.1.1.toNat p.1.2.toNat p.2,some (.f (Yl p.1)),some (I p.2))) (fun b'=>b'.1.length=rows.length∧(∀ p,Inn rows p→Inn b'.1 p)∧Good most b'.1) ps (rows,none,none) ⟨rfl,fun _ h=>h,g⟩ (fun p hpm b' hb'=>by
      obtain ⟨hl,hin,hg⟩:=hb'
      obtain ⟨hp1,hp2,hp3⟩:=hp p hpm
      have hi:=hin p.1 hp1
      have hlt:p.1.1.toNat < b'.1.length:=by have:=hi.1; have:=hi.2.1; omega
      have er:b'.1[p.1.1.toNat]?=some b'.1[p.1.1.toNat]:=by simp [hlt]
      have hj:=hi.2.2.2 _ (List.mem_of_getElem? er)
      have e1:atM ((List.range rows.length).map fun i=>MV.ref (h.length + i)) p.1.1=some (.ref (h.length + p.1.1.toNat)):=by
        rw [yA _ _ hi.1]
        rw [List.getElem?_map,List.getElem?_range (by omega)]; rfl
      have e2:ixM b'.1[p.1.1.toNat].length p.1.2=some p.1.2.toNat:=by
        unfold ixM
        rw [if_pos hi.2.2.1,if_pos hj]
      have ht:=Zay h b'.1
      rw [hl] at ht
      refine ⟨?_,by rw [YD]; exact hl,fun q hq=>Qbd (hin q hq),yaZ hg hp2 hp3⟩
      simp [Zi,ht,e1,zaA h b'.1 _ _ er,e2]
      exact ybI h b'.1 _ _ _ p.2 er)
  obtain ⟨L1,L2⟩:=L
  have hfold:(ps.foldl (fun (b':List (List Int)×Option MV×Option MV) p=>(yr b'.1 p.1.1.toNat p.1.2.toNat p.2,some (.f (Yl p.1)),some (I p.2))) (rows,none,none)).1=qi rows ps:=by
    unfold qi
    exact Zaq _ _ (fun b p=>rfl) ps _
  refine ⟨?_,?_⟩
  · have hl:=L2.1
    rw [hfold] at hl
    obtain ⟨t',ef⟩:=zbL h (qi rows ps)
    rw [hl] at ef
    have g2:Good most (qi rows ps):=by rw [← hfold]; exact L2.2.2
    have mk:=YE n (h++t') most false false (qi rows ps) g2
    simp only [Yd,Zn] at mk ef
    simp
    rw [L1]
    simp [hfold,ef,mk]
  · rw [← hfold]; exact L2.2.2
theorem qbm (want:Int) (iv:MV) (n0:Int) (ns:List Int) (V:InkV (.code::h) iv (n0::ns)):run prog (n + 1) "nearest_ink" [I want,iv] (.code::h)=.ok (I (Zm want n0 ns)) (.code::h):=by
  have q:=V.q
  simp only [List.map_cons] at q
  have e:yf (MV.f (.int n0)::ns.map (MV.f∘FV.int))=some (n0::ns):=by
    exact Y5 (n0::ns)
  have e2:ZO (I want) iv (.code::h)=.ok (I (Zm want n0 ns)) (.code::h):=by
    simp only [ZO,qc,Zf,q,Function.comp_apply,e]
    rfl
  have lv:qg (.code::h) (I (Zm want n0 ns)) (.code::h)=.ok (I (Zm want n0 ns)) (.code::h):=by
    unfold qg
    rw [if_pos ⟨Nat.le_refl _,fun i c _ e=>.inl e⟩]
    simp
  rw [Q7]
  simp only [d_nearest_ink]
  simp [e2,lv]
theorem qbd (cv:FV) (shade due whole:Int) (iv:MV) (n0:Int) (ns:List Int) (V:InkV (.code::h) iv (n0::ns)) (hw:0 < whole) (hb:whole.natAbs < big) :
    run prog (n + 2) "entry_of" [.f cv,I shade,I due,I whole,iv] (.code::h)=.ok (.f (.tup [cv,.int (due / whole),.int (Zm (shade + due / whole) n0 ns),.int (shade + due / whole - Zm (shade + due / whole) n0 ns),.int (due % whole)])) (.code::h):=by
  have N:=qbm n h (shade + due / whole) iv n0 ns V
  have d1:∀ hh,zf true .fdiv (I due) (I whole) hh=.ok (I (due / whole)) hh:=fun hh=>zg _ _ _ ⟨hw,.inr hb⟩
  have d2:∀ hh,zf true .mod (I due) (I whole) hh=.ok (I (due % whole)) hh:=fun hh=>Qd _ _ _ hw
  have lv:∀ x,qg (.code::h) (.f x) (.code::h)=.ok (.f x) (.code::h):=fun x=>by
    unfold qg
    rw [if_pos ⟨Nat.le_refl _,fun i c _ e=>.inl e⟩]
    simp
  rw [YaF]
  simp only [d_entry_of]
  simp [N,d1,d2,Zg,Qh,lv]
end
end MP
end
section
set_option maxHeartbeats 2000000
namespace MP
open PySem
noncomputable def apI (w k:Int):Int:=if w - k < 0 then -(w - k) else w - k
theorem Q1 (w:Int):∀ (r:List Int) (n:Int),Zm w n r∈n::r
  | [],n=>by simp [Zm]
  | k::r,n=>by
    have e:Zm w n (k::r)=Zm w (if apI w k < apI w n then k else n) r:=rfl
    rw [e]
    have:=Q1 w r (if apI w k < apI w n then k else n)
    rcases List.mem_cons.mp this with h | h
    · rw [h]; split <;> simp
    · simp [h]
theorem zV (w:Int):∀ (r:List Int) (n:Int),∀ x∈n::r,apI w (Zm w n r)≤apI w x
  | [],n,x,hx=>by simp at hx; subst hx; simp [Zm]
  | k::r,n,x,hx=>by
    have e:Zm w n (k::r)=Zm w (if apI w k < apI w n then k else n) r:=rfl
    rw [e]
    have ih:=zV w r (if apI w k < apI w n then k else n)
    have h0:=ih _ (List.mem_cons_self)
    rcases List.mem_cons.mp hx with rfl | hx
    · refine Int.le_trans h0 ?_
      split <;> omega
    · rcases List.mem_cons.mp hx with rfl | hx
      · refine Int.le_trans h0 ?_
        split <;> omega
      · exact ih x (by simp [hx])
noncomputable abbrev Aro:=List (Int×Int×Int)
noncomputable abbrev ye (t:Int×Int×Int):FV:=.tup [.int t.1,.int t.2.1,.int t.2.2]
noncomputable def Ye (ar:Aro):Int:=(ar.map fun t=>t.2.2).sum
noncomputable def zh (kvs:List ((Int×Int)×Int)) (k:Int×Int):Int:=(zK kvs k).getD 0
noncomputable def zo (kvs:List ((Int×Int)×Int)) (ar:Aro) (p:Int×Int):Int:=(ar.map fun t=>t.2.2 * zh kvs (p.1 - t.1,p.2 - t.2.1)).sum
structure WS where
  kvs:List ((Int×Int)×Int)
  odd:Int
noncomputable def Zp (ar:Aro) (s:WS) (p:Int×Int):Int:=(s.odd + zo s.kvs ar p) / Ye ar
noncomputable def Zr (ar:Aro) (n0:Int) (ns:List Int) (sh:Int×Int→Int) (s:WS) (p:Int×Int):Int:=Zm (sh p + Zp ar s p) n0 ns
noncomputable def nxW (ar:Aro) (n0:Int) (ns:List Int) (sh:Int×Int→Int) (s:WS) (p:Int×Int):WS :=
  ⟨Yx s.kvs p (sh p + Zp ar s p - Zr ar n0 ns sh s p),(s.odd + zo s.kvs ar p) % Ye ar⟩
noncomputable def Yc (ar:Aro) (n0:Int) (ns:List Int) (sh:Int×Int→Int) (s:WS) (ps:List (Int×Int)):WS:=ps.foldl (nxW ar n0 ns sh) s
noncomputable def zq (ar:Aro) (n0:Int) (ns:List Int) (sh:Int×Int→Int):WS→List (Int×Int)→List Int
  | _,[]=>[]
  | s,p::ps=>Zr ar n0 ns sh s p::zq ar n0 ns sh (nxW ar n0 ns sh s p) ps
theorem Zz (ar:Aro) (n0:Int) (ns:List Int) (sh:Int×Int→Int):∀ (ps:List (Int×Int)) (s:WS),(zq ar n0 ns sh s ps).length=ps.length
  | [],_=>rfl
  | p::ps,s=>by simp [zq,Zz ar n0 ns sh ps]
theorem YT (ar:Aro) (n0:Int) (ns:List Int) (sh:Int×Int→Int):∀ (ps qs:List (Int×Int)) (s:WS),zq ar n0 ns sh s (ps++qs)=zq ar n0 ns sh s ps++zq ar n0 ns sh (Yc ar n0 ns sh s ps) qs
  | [],qs,s=>rfl
  | p::ps,qs,s=>by simp [zq,YT ar n0 ns sh ps qs,Yc]
theorem Y1 (ar:Aro) (n0:Int) (ns:List Int) (sh:Int×Int→Int) (ps qs:List (Int×Int)) (s:WS):Yc ar n0 ns sh s (ps++qs)=Yc ar n0 ns sh (Yc ar n0 ns sh s ps) qs:=by simp [Yc]
structure WOk (most:Int) (ar:Aro) (s:WS):Prop where
  l:∀ kv∈s.kvs,-most≤kv.2∧kv.2≤most
  o:0≤s.odd∧s.odd < Ye ar
structure AOk (ar:Aro):Prop where
  t:1≤Ye ar
  s:∀ t∈ar,0≤t.2.2
  b:∀ t∈ar,t.1.natAbs < 2 ^ 100∧t.2.1.natAbs < 2 ^ 100∧t.2.2 < 2 ^ 100
  n:ar.length≤100
theorem zU {most:Int} {kvs:List ((Int×Int)×Int)} (hm:0≤most) (l:∀ kv∈kvs,-most≤kv.2∧kv.2≤most) (k:Int×Int):-most≤zh kvs k∧zh kvs k≤most:=by
  unfold zh zK
  cases e:kvs.find? fun p=>decide (p.1=k) with
  | none=>simp; omega
  | some p=>exact l p (List.mem_of_find?_eq_some e)
theorem Za4 {most:Int} {kvs:List ((Int×Int)×Int)} (hm:0≤most) (l:∀ kv∈kvs,-most≤kv.2∧kv.2≤most) (p:Int×Int):∀ (ar:Aro),(∀ t∈ar,0≤t.2.2)→-(Ye ar * most)≤zo kvs ar p∧zo kvs ar p≤Ye ar * most
  | [],_=>by simp [zo,Ye]
  | t::r,h=>by
    have ih:=Za4 hm l p r fun t ht=>h t (by simp [ht])
    have g:=zU hm l (p.1 - t.1,p.2 - t.2.1)
    have h0:=h t (by simp)
    have e1:Ye (t::r)=t.2.2 + Ye r:=by simp [Ye]
    have e2:zo kvs (t::r) p=t.2.2 * zh kvs (p.1 - t.1,p.2 - t.2.1) + zo kvs r p:=by simp [zo]
    rw [e1,e2,Int.add_mul]
    have a1:t.2.2 * zh kvs (p.1 - t.1,p.2 - t.2.1)≤t.2.2 * most:=Int.mul_le_mul_of_nonneg_left g.2 h0
    have a2:t.2.2 * (-most)≤t.2.2 * zh kvs (p.1 - t.1,p.2 - t.2.1):=Int.mul_le_mul_of_nonneg_left g.1 h0
    rw [Int.mul_neg] at a2
    omega
theorem zay {most:Int} {ar:Aro} {s:WS} (hm:0≤most) (a:AOk ar) (w:WOk most ar s) (p:Int×Int):-most≤Zp ar s p∧Zp ar s p≤most:=by
  have d:=Za4 hm w.l p ar a.s
  have o:=w.o
  have t:=a.t
  unfold Zp
  constructor
  · rw [Int.le_ediv_iff_mul_le (by omega),Int.neg_mul,Int.mul_comm]; omega
  · have:(s.odd + zo s.kvs ar p) / Ye ar < most + 1:=by
      rw [Int.ediv_lt_iff_lt_mul (by omega),Int.add_mul,Int.mul_comm most]; omega
    omega
theorem ZaP {kvs:List ((Int×Int)×Int)} {k:Int×Int} {v:Int} {kv:(Int×Int)×Int} (h:kv∈Yx kvs k v):kv∈kvs∨kv.2=v:=by
  unfold Yx at h
  split at h
  · obtain ⟨p,hp,rfl⟩:=List.mem_map.mp h
    split
    · exact .inr rfl
    · exact .inl hp
  · rcases List.mem_append.mp h with h | h
    · exact .inl h
    · simp at h; subst h; exact .inr rfl
theorem Qbi (kvs:List ((Int×Int)×Int)) (k:Int×Int) (v:Int):(Yx kvs k v).length≤kvs.length + 1:=by
  unfold Yx
  split <;> simp
theorem WOk.next {most:Int} {ar:Aro} {s:WS} {n0:Int} {ns:List Int} {sh:Int×Int→Int} {p:Int×Int} (hm:0≤most) (a:AOk ar) (w:WOk most ar s) (z:(0:Int)∈n0::ns) (m:most∈n0::ns) (hs:0≤sh p∧sh p≤most):WOk most ar (nxW ar n0 ns sh s p):=by
  have g:=zay hm a w p
  refine ⟨fun kv h=>?_,Int.emod_nonneg _ (by have:=a.t; omega),Int.emod_lt_of_pos _ (by have:=a.t; omega)⟩
  rcases ZaP h with h | h
  · exact w.l kv h
  · rw [h]
    have b0:=zV (sh p + Zp ar s p) ns n0 0 z
    have b1:=zV (sh p + Zp ar s p) ns n0 most m
    unfold Zr
    generalize Zm (sh p + Zp ar s p) n0 ns=q at b0 b1
    unfold apI at b0 b1
    split at b0 <;> split at b0 <;> split at b1 <;> omega
theorem WOk.walk {most:Int} {ar:Aro} {n0:Int} {ns:List Int} {sh:Int×Int→Int} (hm:0≤most) (a:AOk ar) (z:(0:Int)∈n0::ns) (m:most∈n0::ns):∀ (ps:List (Int×Int)) (s:WS),WOk most ar s→(∀ p∈ps,0≤sh p∧sh p≤most)→WOk most ar (Yc ar n0 ns sh s ps)
  | [],s,w,_=>w
  | p::ps,s,w,h=>WOk.walk hm a z m ps _ (w.next hm a z m (h p (by simp))) fun q hq=>h q (by simp [hq])
theorem Qy {G:yz} {h:MH} (hg:GuardOk G h) (ar:Aro) (hl:ar.length≤1000) (z0 z1 z2:Option MV) :
    (Qn G (qq (.tp [.nm 0,.nm 1,.nm 2]) (fun _ x=>R.ok true x) (fun x x1=>opt (x[2]?.join) fun v=>R.ok v x1)) (ar.map fun t=>MV.f (ye t)) [] [z0,z1,z2] h).bind (fun acc h3=>Zq true acc h3)=.ok (.f (Qa false (ar.map fun t=>t.2.2))) h:=by
  rw [zE hg (fun σ=>∃ z0 z1 z2,σ=[z0,z1,z2]) (e:=fun t=>MV.f (ye t)) (g:=fun t=>I t.2.2) ar [] _ ⟨z0,z1,z2,rfl⟩ (by simp [yi]; omega) (by
    rintro t ht σ ⟨z0,z1,z2,rfl⟩
    exact ⟨[some (I t.1),some (I t.2.1),some (I t.2.2)],by simp [qq],_,_,_,rfl⟩)]
  have e:(ar.map fun t=>I t.2.2)=((ar.map fun t=>t.2.2).map FV.int).map MV.f:=by simp
  rw [List.nil_append,R.bind_ok,e,Zh]
  rfl
theorem ZM (ar:Aro) (n0:Int) (ns:List Int) (sh:Int×Int→Int):∀ (ps:List (Int×Int)) (s:WS),(Yc ar n0 ns sh s ps).kvs.length≤s.kvs.length + ps.length
  | [],s=>by simp [Yc]
  | p::ps,s=>by
    have:=ZM ar n0 ns sh ps (nxW ar n0 ns sh s p)
    have:=Qbi s.kvs p (sh p + Zp ar s p - Zr ar n0 ns sh s p)
    simp only [Yc,List.foldl_cons,List.length_cons] at *
    simp only [nxW] at *
    omega
noncomputable def shF (rows:List (List Int)) (p:Int×Int):Int:=(rows.getD p.1.toNat []).getD p.2.toNat 0
noncomputable def Ya (H W:Nat):List (Int×Int):=(Qj H W).map fun p=>((p.1:Int),(p.2:Int))
theorem Qp {H W:Nat} {p:Int×Int} (h:p∈Ya H W):0≤p.1∧p.1 < H∧0≤p.2∧p.2 < W:=by
  obtain ⟨⟨a,b⟩,hq,rfl⟩:=List.mem_map.mp h
  unfold Qj at hq
  simp only [List.mem_flatMap,List.mem_range,List.mem_map,Prod.mk.injEq] at hq
  obtain ⟨r,hr,c,hc,rfl,rfl⟩:=hq
  simp only
  omega
theorem qad (H W:Nat):(Ya H W).length=H * W:=by simp [Ya,Yas]
theorem Qaj {most:Int} {rows:List (List Int)} {H W:Nat} (d:Drawn most rows H W) {p:Int×Int} (h:0≤p.1∧p.1 < H∧0≤p.2∧p.2 < W):∃ r,rows[p.1.toNat]?=some r∧r[p.2.toNat]?=some (shF rows p)∧0≤shF rows p∧shF rows p≤most:=by
  have l1:p.1.toNat < rows.length:=by rw [d.len]; omega
  have e1:rows[p.1.toNat]?=some rows[p.1.toNat]:=List.getElem?_eq_getElem l1
  have hm:=List.getElem_mem l1
  have l2:p.2.toNat < (rows[p.1.toNat]).length:=by rw [d.wid _ hm]; omega
  have e2:=List.getElem?_eq_getElem l2
  have es:shF rows p=(rows[p.1.toNat])[p.2.toNat]:=by simp [shF,List.getD,e1,e2]
  exact ⟨_,e1,by rw [es]; exact e2,by rw [es]; exact d.sh _ hm _ (List.getElem_mem l2)⟩
theorem yab (h:MH) (b:Bool) (ar:Aro):SeqV h (.f (sq b (ar.map ye))) (ar.map fun t=>.f (ye t)):=by
  cases b
  · have:=SeqV.lst h (ar.map ye); simpa [sq,Function.comp_def] using this
  · have:=SeqV.tup h (ar.map ye); simpa [sq,Function.comp_def] using this
theorem ZaF {ar:Aro} (a:AOk ar):Ye ar < 2 ^ 110:=by
  have:∀ (ar:Aro),(∀ t∈ar,t.2.2 < 2 ^ 100)→Ye ar≤ar.length * 2 ^ 100:=by
    intro ar
    induction ar with
    | nil=>intro _; simp [Ye]
    | cons t r ih =>
      intro h
      have:=ih fun t ht=>h t (by simp [ht])
      have:=h t (by simp)
      have e1:Ye (t::r)=t.2.2 + Ye r:=by simp [Ye]
      rw [e1,List.length_cons]
      omega
  have h1:=this ar fun t ht=>(a.b t ht).2.2
  have h2:=a.n
  omega
theorem qv {i:Int} (h0:-(2 ^ 200) < i) (h1:i < 2 ^ 200):i.natAbs < big:=by
  have:(2:Nat) ^ 200≤big:=Nat.pow_le_pow_right (by decide) (by decide)
  omega
theorem ybr (c:Cell) (g:MH) (d:Cell) (t:MH):kill [g.length + 1] (c::(g++d::t))=c::(g++.dead::t):=by
  unfold kill
  refine List.ext_getElem? fun i=>?_
  rw [List.getElem?_mapIdx]
  cases i with
  | zero=>simp
  | succ i =>
    simp only [List.getElem?_cons_succ,List.mem_singleton]
    rcases Nat.lt_trichotomy i g.length with hi | hi | hi
    · rw [List.getElem?_append_left hi,List.getElem?_append_left hi]
      have:¬ i + 1=g.length + 1:=by omega
      simp only [this,if_false]
      cases g[i]? <;> rfl
    · subst hi; simp
    · rw [List.getElem?_append_right (by omega),List.getElem?_append_right (by omega)]
      obtain ⟨m,hm⟩:∃ m,i - g.length=m + 1:=⟨i - g.length - 1,by omega⟩
      rw [hm]
      have:¬ i + 1=g.length + 1:=by omega
      simp only [List.getElem?_cons_succ,this,if_false]
      cases t[m]? <;> rfl
theorem QbD (c:Cell) (g:MH) (ys:List FV) (t:MH):qB (.ref (g.length + 1)) (c::(g++.lst (ys.map .f)::t))=.ok (.f (.lst ys)) (c::(g++.dead::t)):=by
  rw [qaI _ _ ys (by have:=Zx (c::g) t (ys.map MV.f); simpa using this),ybr]
noncomputable def zr (r W:Nat):List (Int×Int):=(List.range W).map fun c:Nat=>((r:Int),(c:Int))
theorem yp (r W:Nat):Ya (r + 1) W=Ya r W++zr r W:=by
  unfold Ya Qj zr
  rw [List.range_succ,List.flatMap_append,List.map_append]
  simp [Function.comp_def]
theorem ZL (r c:Nat):zr r (c + 1)=zr r c++[((r:Int),(c:Int))]:=by simp [zr,List.range_succ]
theorem QJ (r W:Nat):(zr r W).length=W:=by simp [zr]
noncomputable def yO (ar:Aro) (n0:Int) (ns:List Int) (sh:Int×Int→Int) (W r:Nat):List Int:=zq ar n0 ns sh (Yc ar n0 ns sh ⟨[],0⟩ (Ya r W)) (zr r W)
noncomputable def Ql (ar:Aro) (n0:Int) (ns:List Int) (sh:Int×Int→Int) (W H:Nat):List (List Int):=(List.range H).map (yO ar n0 ns sh W)
theorem qag (ar:Aro) (n0:Int) (ns:List Int) (sh:Int×Int→Int) (W H:Nat):Ql ar n0 ns sh W (H + 1)=Ql ar n0 ns sh W H++[yO ar n0 ns sh W H]:=by simp [Ql,List.range_succ]
end MP
end
section
set_option maxHeartbeats 2000000
namespace MP
open PySem
section
variable (n:Nat) (h:MH)
theorem zax (d:Nat) (kvs:List ((Int×Int)×Int)) (p:Int×Int) (iv:MV) (ar:Aro) (V:SeqV h iv (ar.map fun t=>.f (ye t))) (hd:ql h (.ref d)=some kvs) (hl:ar.length≤1000) (mu:∀ t∈ar,∀ k,Zw t.2.2 (zh kvs k)) :
    run prog (n + 1) "due_from" [.ref d,.f (Yl p),iv] h=.ok (I (zo kvs ar p)) h:=by
  have q:=V.q
  rw [QaC]
  simp only [d_due_from]
  simp [itV,q,MP.stM]
  rw [zE V.g (fun σ=>∃ z0 z1 z2,σ=[z0,z1,z2,some (.ref d),some (.f (Yl p))]) (e:=fun t=>MV.f (ye t)) (g:=fun t=>I (t.2.2 * zh kvs (p.1 - t.1,p.2 - t.2.1))) ar [] _ ⟨none,none,none,rfl⟩ (by simp [yi]; omega) ?_]
  · have e:(ar.map fun t=>MV.f (.int (t.2.2 * zh kvs (p.1 - t.1,p.2 - t.2.1))))=(ar.map fun t=>t.2.2 * zh kvs (p.1 - t.1,p.2 - t.2.1)).map (MV.f∘FV.int):=by simp
    have nl:∀ L:List Int,Zq true (L.map (MV.f∘FV.int)) h=.ok (.f (.lst (L.map FV.int))) h:=fun L=>by
      have:=Zh (L.map FV.int) (h:=h)
      simpa using this
    simp only [List.nil_append,R.bind_ok,e,nl]
    show _=R.ok (I (ar.map fun t=>t.2.2 * zh kvs (p.1 - t.1,p.2 - t.2.1)).sum) h
    generalize (ar.map fun t=>t.2.2 * zh kvs (p.1 - t.1,p.2 - t.2.1))=L
    simp
  · rintro t ht σ ⟨z0,z1,z2,rfl⟩
    have m1:=mu t ht (p.1 - t.1,p.2 - t.2.1)
    have g1:zaq (.ref d) (.f (.tup [.int (p.1 - t.1),.int (p.2 - t.2.1)])) (I 0) h=.ok (I (zh kvs (p.1 - t.1,p.2 - t.2.1))) h:=by
      simp only [zaq,hd,Zf,Zs,Yk,List.map_cons,List.map_nil,zh]
      cases zK kvs (p.1 - t.1,p.2 - t.2.1) <;> rfl
    refine ⟨[some (I t.1),some (I t.2.1),some (I t.2.2),some (.ref d),some (.f (Yl p))],?_,_,_,_,rfl⟩
    simp [qq,hd,g1,yo,m1]
theorem qai (xs:List Int) (hs:1≤xs.sum) (h0:∀ x∈xs,0≤x):run prog (n + 1) "ask_shares" [.f (Qa false xs)] h=.ok (.f .non) h:=by
  have ne:xs≠[]:=by rintro rfl; simp at hs
  have e1:¬ xs.sum < 1:=by omega
  have e2:¬ Ybc xs < 0:=by have:=h0 _ (yad ne); omega
  have q:yb h (.f (Qa false xs))=some (xs.map (MV.f∘FV.int)):=by simp [Qa]
  have q1:=qaJ true h (.f (Qa false xs)) xs (by simp [Qa]) ne
  rw [Qai]
  simp only [d_ask_shares]
  simp [q,e1,q1,e2]
theorem Qac (iv:MV) (ar:Aro) (V:SeqV h iv (ar.map fun t=>.f (ye t))) (hl:ar.length≤1000) (a:AOk ar) (bh:∀ t∈ar,¬ (t.1 < 0∨(t.1=0∧t.2.1 < 1))):run prog (n + 2) "ask_around" [iv] h=.ok (.f .non) h:=by
  have q:=V.q
  have S:=qai n h (ar.map fun t:Int×Int×Int=>t.2.2) (by have:=a.t; exact this) (fun x hx=>by obtain ⟨t,ht,rfl⟩:=List.mem_map.mp hx; exact a.s t ht)
  suffices Ret (run prog (n + 2) "ask_around" [iv] h) fun v h'=>v=.f .non∧h'=h by
    obtain ⟨v,h',e,rfl,rfl⟩:=this
    exact e
  rw [Qad]
  simp only [d_ask_around]
  simp [itV,q]
  refine Za0 (c:="NoShares") (Q:=fun r=>Ret (Zd _ r) _) ar (fun i σ hh=>∃ z1 z2 z3,hh=h∧σ=[some iv,z1,z2,z3]) (fun _=>False) ?_ ⟨none,none,none,rfl,rfl⟩ ?_ ?_ (fun _ z=>z.elim)
  · rintro i σ hh ⟨_,_,_,rfl,_⟩; exact V.g
  · rintro i t σ hh ht ⟨z1,z2,z3,rfl,rfl⟩
    have b:=bh t (List.mem_of_getElem? ht)
    refine .inl ⟨[some iv,some (I t.1),some (I t.2.1),some (I t.2.2)],hh,?_,_,_,_,rfl,rfl⟩
    by_cases c0:t.1=0
    · have c1:¬ t.2.1 < 1:=fun z=>b (.inr ⟨c0,z⟩)
      simp [Zi,c0,c1]
    · have c1:¬ t.1 < 0:=fun z=>b (.inl z)
      simp [Zi,c0,c1]
  · rintro σ hh ⟨z1,z2,z3,rfl,rfl⟩
    have C:=Qy V.g ar hl none none none
    simp [q,MP.stM,C,S]
end
end MP
end
section
set_option maxHeartbeats 2000000
namespace MP
open PySem
noncomputable def Zl (H W:Nat):List (List Int):=List.replicate H (List.replicate W 0)
section
variable (n:Nat) (h:MH)
theorem qaz (most:Int) (H W:Nat) (hm:1≤most) (h1:1≤H) (h2:H≤1000) (w1:1≤W) (w2:W≤1000) (b:Bool) (ps:List ((Int×Int)×Int)) (hp:∀ p∈ps,(0≤p.1.1∧p.1.1 < H∧0≤p.1.2∧p.1.2 < W)∧0≤p.2∧p.2≤most) :
    run prog (n + 4) "laid_out" [I most,.f (.tup [.int H,.int W]),.f (sq b (ps.map Q3))] h=.ok (.f (Zn most (qi (Zl H W) ps))) h:=by
  have g:Good most (Zl H W):=by
    refine ⟨hm,by simp [Zl]; omega,⟨W,w1,fun r hr=>by rw [List.eq_of_mem_replicate hr]; simp⟩,fun r hr v hv=>?_,by simp [Zl]; omega⟩
    rw [List.eq_of_mem_replicate hr] at hv
    rw [List.eq_of_mem_replicate hv]; omega
  have WS:=(Z9 n h most (Zl H W) b ps g (fun p hp'=>⟨⟨(hp p hp').1.1,by simpa [Zl] using (hp p hp').1.2.1,(hp p hp').1.2.2.1,fun r hr=>by rw [List.eq_of_mem_replicate hr]; simpa using (hp p hp').1.2.2.2⟩,(hp p hp').2⟩)).1
  have mk:=YE (n + 1) h most false false (Zl H W) g
  have b1:∀ hh,zf true .mul (.f (.lst [.int 0])) (I (W:Int)) hh=.ok (.f (Qa false (List.replicate W 0))) hh:=fun hh=>by
    have c:-(2 ^ 63)≤(W:Int)∧(W:Int) < 2 ^ 63∧1 * (W:Int).toNat≤sizeL:=⟨by omega,by omega,by rw [yi]; omega⟩
    have e:(List.replicate W [MV.f (.int 0)]).flatten=((List.replicate W (0:Int)).map FV.int).map MV.f:=by
      rw [List.flatten_replicate_singleton]; simp
    unfold zf
    simp only [qc,listOf,Zf,List.map_cons,List.map_nil,List.length_cons,List.length_nil,Nat.zero_add]
    rw [if_pos c,Int.toNat_natCast,e,Zh]; rfl
  have b2:∀ hh,zf true .mul (.f (.lst [Qa false (List.replicate W 0)])) (I (H:Int)) hh=.ok (.f (Yd false false (Zl H W))) hh:=fun hh=>by
    have c:-(2 ^ 63)≤(H:Int)∧(H:Int) < 2 ^ 63∧1 * (H:Int).toNat≤sizeL:=⟨by omega,by omega,by rw [yi]; omega⟩
    have e:(List.replicate H [MV.f (Qa false (List.replicate W 0))]).flatten=((Zl H W).map (Qa false)).map MV.f:=by
      rw [List.flatten_replicate_singleton]; simp [Zl]
    unfold zf
    simp only [qc,listOf,Zf,List.map_cons,List.map_nil,List.length_cons,List.length_nil,Nat.zero_add]
    rw [if_pos c,Int.toNat_natCast,e,Zh]; rfl
  rw [zaE]
  simp only [d_laid_out]
  have a0:atM [I (H:Int),I (W:Int)] 0=some (I (H:Int)):=rfl
  have a1:atM [I (H:Int),I (W:Int)] 1=some (I (W:Int)):=rfl
  generalize Qa false (List.replicate W 0)=z at *
  generalize Yd false false (Zl H W)=zz at *
  generalize sq b (ps.map Q3)=pp at *
  generalize Zn most (Zl H W)=p0 at *
  simp [a0,a1,b1,b2,Qh,mk,WS]
noncomputable def Zbe (p:Int×Int) (got ink left odd:Int):FV:=.tup [Yl p,.int got,.int ink,.int left,.int odd]
noncomputable def QK (ar:Aro) (n0:Int) (ns:List Int) (sh:Int×Int→Int):WS→List (Int×Int)→List FV
  | _,[]=>[]
  | s,p::ps=>Zbe p (Zp ar s p) (Zr ar n0 ns sh s p) (sh p + Zp ar s p - Zr ar n0 ns sh s p) (nxW ar n0 ns sh s p).odd::QK ar n0 ns sh (nxW ar n0 ns sh s p) ps
theorem zaQ (ar:Aro) (n0:Int) (ns:List Int) (sh:Int×Int→Int):∀ (ps qs:List (Int×Int)) (s:WS),QK ar n0 ns sh s (ps++qs)=QK ar n0 ns sh s ps++QK ar n0 ns sh (Yc ar n0 ns sh s ps) qs
  | [],qs,s=>rfl
  | p::ps,qs,s=>by simp [QK,zaQ ar n0 ns sh ps qs,Yc]
theorem qaM (ar:Aro) (n0:Int) (ns:List Int) (sh:Int×Int→Int):∀ (ps:List (Int×Int)) (s:WS),(QK ar n0 ns sh s ps).length=ps.length
  | [],_=>rfl
  | p::ps,s=>by simp [QK,qaM ar n0 ns sh ps]
theorem QaJ (most:Int) (rows:List (List Int)) (H W:Nat) (d:Drawn most rows H W) (hm:1≤most) (h1:1≤H) (h2:H≤1000) (w1:1≤W) (w2:W≤1000) (ar:Aro) (n0:Int) (ns:List Int) (sh:Int×Int→Int) (s:WS) (ps:List (Int×Int))
    (hps:ps.length≤10000) (hin:∀ p∈ps,0≤p.1∧p.1 < H∧0≤p.2∧p.2 < W) (hi:∀ q∈n0::ns,0≤q∧q≤most) :
    run prog (n + 5) "dots_of" [.f (Zn most rows),.f (.lst (QK ar n0 ns sh s ps))] h=.ok (.f (Zn most (qi (Zl H W) (ps.zip (zq ar n0 ns sh s ps))))) h:=by
  have hr:rows≠[]:=by rintro rfl; have:=d.len; simp at this; omega
  have hw:(rows.headD []).length=W:=by
    cases rows with
    | nil=>exact absurd rfl hr
    | cons r rs=>exact d.wid r (by simp)
  have S:=Y6 (n + 2) h most rows hr
  rw [d.len,hw] at S
  have em:∀ (ps:List (Int×Int)) (s:WS),∃ es:List ((Int×Int)×Int×Int×Int×Int),QK ar n0 ns sh s ps=es.map (fun e=>Zbe e.1 e.2.1 e.2.2.1 e.2.2.2.1 e.2.2.2.2)∧es.map (fun e=>(e.1,e.2.2.1))=ps.zip (zq ar n0 ns sh s ps):=by
    intro ps
    induction ps with
    | nil=>intro s; exact ⟨[],rfl,rfl⟩
    | cons p ps ih =>
      intro s
      obtain ⟨es,e1,e2⟩:=ih (nxW ar n0 ns sh s p)
      exact ⟨(p,Zp ar s p,Zr ar n0 ns sh s p,sh p + Zp ar s p - Zr ar n0 ns sh s p,(nxW ar n0 ns sh s p).odd)::es,by simp [QK,e1],by simp [zq,e2]⟩
  obtain ⟨es,e1,e2⟩:=em ps s
  have L:=qaz n h most H W hm h1 h2 w1 w2 false (ps.zip (zq ar n0 ns sh s ps)) (fun q hq=>by
    obtain ⟨a,b⟩:=q
    have:=List.of_mem_zip hq
    refine ⟨hin a this.1,hi b ?_⟩
    have io:∀ (ps:List (Int×Int)) (s:WS),∀ x∈zq ar n0 ns sh s ps,x∈n0::ns:=by
      intro ps
      induction ps with
      | nil=>intro s x hx; simp [zq] at hx
      | cons p ps ih =>
        intro s x hx
        rcases List.mem_cons.mp hx with rfl | hx
        · exact Q1 _ _ _
        · exact ih _ x hx
    exact io ps s b this.2)
  have hl:es.length≤sizeL:=by
    have:=congrArg List.length e2
    simp [Zz] at this
    rw [yi]; omega
  rw [e1]
  rw [← e2] at L ⊢
  have p1:YaL prog.fok "most" (.f (Zn most rows)) h=some (I most):=by simp [Zn]
  rw [QaL]
  simp only [d_dots_of]
  generalize Zn most rows=pc at *
  generalize qi (Zl H W) (es.map fun e=>(e.1,e.2.2.1))=so at *
  simp [p1,S,itV,MP.stM,Function.comp_def]
  rw [zE (yu _) (fun σ=>∃ z0 z1 z2 z3 z4,σ=[z0,z1,z2,z3,z4]) (e:=fun e:(Int×Int)×Int×Int×Int×Int=>MV.f (Zbe e.1 e.2.1 e.2.2.1 e.2.2.2.1 e.2.2.2.2)) (g:=fun e=>MV.f (Q3 (e.1,e.2.2.1))) es [] _ ⟨none,none,none,none,none,rfl⟩ (by simpa using hl) (by
    rintro e he σ ⟨z0,z1,z2,z3,z4,rfl⟩
    refine ⟨[some (.f (Yl e.1)),some (I e.2.1),some (I e.2.2.1),some (I e.2.2.2.1),some (I e.2.2.2.2)],?_,_,_,_,_,_,rfl⟩
    simp [qq,Zbe,Zg,Qh])]
  have e3:(es.map fun e=>MV.f (Q3 (e.1,e.2.2.1)))=((es.map fun e=>(e.1,e.2.2.1)).map Q3).map MV.f:=by simp
  rw [List.nil_append,R.bind_ok,e3,Zh]
  simp only [sq] at L
  simp at L ⊢
  simp [L]
end
end MP
end
section
set_option maxHeartbeats 4000000
namespace MP
open PySem
section
variable (n:Nat) (g:MH)
theorem QaR (most:Int) (rows:List (List Int)) (H W:Nat) (d:Drawn most rows H W) (hm:1≤most) (hm2:most≤100000000000000000000000000) (h1:1≤H) (h2:H≤60) (w1:1≤W) (w2:W≤60) (hw:H * W≤60) (ba bi:Bool) (ar:Aro) (a:AOk ar) (bh:∀ t∈ar,¬ (t.1 < 0∨(t.1=0∧t.2.1 < 1)))
    (n0:Int) (ns:List Int) (K:Inks most (n0::ns)) :
    run prog (n + 6) "spread_on" [.f (Zn most rows),.f (sq ba (ar.map ye)),.f (Qa bi (n0::ns))] (.code::g) =
      .ok (.f (.tup [Zn most (qi (Zl H W) ((Ya H W).zip (zq ar n0 ns (shF rows) ⟨[],0⟩ (Ya H W)))),.int (Yc ar n0 ns (shF rows) ⟨[],0⟩ (Ya H W)).odd])) (.code::g):=by
  suffices Ret (run prog (n + 6) "spread_on" [.f (Zn most rows),.f (sq ba (ar.map ye)),.f (Qa bi (n0::ns))] (.code::g)) fun v h'=>v=.f (.tup [Zn most (qi (Zl H W) ((Ya H W).zip (zq ar n0 ns (shF rows) ⟨[],0⟩ (Ya H W)))),.int (Yc ar n0 ns (shF rows) ⟨[],0⟩ (Ya H W)).odd])∧h'=.code::g by
    obtain ⟨v,h',e,rfl,rfl⟩:=this
    exact e
  have al:ar.length≤1000:=by have:=a.n; omega
  have hr:rows≠[]:=by rintro rfl; have:=d.len; simp at this; omega
  have hwd:(rows.headD []).length=W:=by
    cases rows with
    | nil=>exact absurd rfl hr
    | cons r rs=>exact d.wid r (by simp)
  have V:=fun h=>yab h ba ar
  have VI:=fun h=>InkV.row h bi (n0::ns)
  have A:=Qac (n + 3) (.code::g) (.f (sq ba (ar.map ye))) ar (V _) al a bh
  have AI:=qaD (n + 3) (.code::g) most (.f (Qa bi (n0::ns))) (n0::ns) (VI _) K hm
  have S:=Y6 (n + 3) (.code::g) most rows hr
  rw [d.len,hwd] at S
  have p1:∀ h,YaL prog.fok "most" (.f (Zn most rows)) h=some (I most):=fun h=>by simp [Zn]
  have CS:=Qy (yu (.code::g)) ar al none none none
  have qs:=(V (.code::g)).q
  have tpos:=a.t
  have tb:=ZaF a
  have CB:=qV (n + 4) (.code::(g++[.lst [],.tab []])) H W (by omega) (by omega) (by omega)
  have ec:(Qj H W).map zw=(Ya H W).map Yl:=by simp [Ya,Function.comp_def]
  rw [ec] at CB
  have FZ:=zaK .code (g++[.lst [],.tab []]) ((Ya H W).map Yl)
  have lenC:(Cell.code::(g++[.lst [],.tab []])).length=(g++[Cell.lst [],.tab []]).length + 1:=rfl
  have a0:atM [I (H:Int),I (W:Int)] 0=some (I (H:Int)):=rfl
  have a1:atM [I (H:Int),I (W:Int)] 1=some (I (W:Int)):=rfl
  have qr:∀ L h,yb h (.f (Qa false L))=some (L.map (MV.f∘FV.int)):=fun L h=>by simp [Qa]
  have st:(ar.map fun t=>t.2.2).sum=Ye ar:=rfl
  have cin:∀ p∈Ya H W,0≤p.1∧p.1 < H∧0≤p.2∧p.2 < W:=fun p hp=>Qp hp
  have cl:=qad H W
  have hmul:∀ (s:WS),WOk most ar s→∀ t∈ar,∀ k,Zw t.2.2 (zh s.kvs k):=fun s w t ht k=>by
    have z:=zU (by omega) w.l k
    have b:=a.b t ht
    have c:=a.s t ht
    exact .inr (.inr ⟨qv (by omega) (by omega),qv (by omega) (by omega)⟩)
  have w0:WOk most ar ⟨[],0⟩:=⟨fun kv h=>by simp at h,by simp; omega⟩
  have D5:=fun ps s hps hin=>QaJ (n + 0) (.code::(g++[.dead,.tab (Yc ar n0 ns (shF rows) ⟨[],0⟩ (Ya H W)).kvs,.dead])) most rows H W d hm h1 (by omega) w1 (by omega) ar n0 ns (shF rows) s ps hps hin K.inn
  have D6:=D5 (Ya H W) ⟨[],0⟩ (by omega) cin
  generalize hps:Ya H W=ps at *
  generalize hsh:shF rows=sh at *
  generalize hpic:Zn most rows=pic at *
  generalize hav:sq ba (ar.map ye)=av at *
  generalize hiv:Qa bi (n0::ns)=iv at *
  refine Ret.of fun Q hQ=>?_
  rw [Qal]
  simp only [d_spread_on]
  have hsum:∀ hh,Yv true "sum" [.f (Qa false (ar.map fun t=>t.2.2))] hh=.ok (I (Ye ar)) hh:=fun hh=>by
    rw [zn,qr]
    generalize hL:(ar.map fun t=>t.2.2)=L
    rw [← st,hL]
    simp
  generalize Qa false (ar.map fun t=>t.2.2)=sv at CS hsum
  have hCB:run prog (n + 5) "cells_by_rows" [I (H:Int),I (W:Int)] (.code::(g++[.lst [],.tab []]))=.ok (.ref (g.length + 3)) (.code::(g++[.lst [],.tab [],.lst (ps.map (MV.f∘Yl))])):=by
    have:=CB; simpa using this
  have hFZ:qB (.ref (g.length + 3)) (.code::(g++[.lst [],.tab [],.lst (ps.map (MV.f∘Yl))]))=.ok (.f (.lst (ps.map Yl))) (.code::(g++[.lst [],.tab [],.dead])):=by
    have:=FZ; simpa using this
  simp [A,AI,S,p1,itV,qs,MP.stM,CS,hsum,a0,a1,hCB,hFZ,-zn]
  refine QU (e:=MV.f∘Yl) (Q:=fun r=>Ret (Zd _ r) _) ps (fun i σ hh=>∃ (z8 z9 z10:Option MV),hh=.code::(g++[.lst ((QK ar n0 ns sh ⟨[],0⟩ (ps.take i)).map .f),.tab (Yc ar n0 ns sh ⟨[],0⟩ (ps.take i)).kvs,.dead]) ∧
    σ=[some (.f pic),some (.f av),some (.f iv),some (.f (.tup [.int H,.int W])),some (I (Ye ar)),some (.ref (g.length + 1)),some (.ref (g.length + 2)),some (I (Yc ar n0 ns sh ⟨[],0⟩ (ps.take i)).odd),z8,z9,z10]) ?_ ?_ ?_
  · exact ⟨none,none,none,by simp [QK,Yc],by simp [Yc]⟩
  · rintro i p σ hh hi ⟨z8,z9,z10,rfl,rfl⟩ Q hQ
    have tk:ps.take (i + 1)=ps.take i++[p]:=by rw [List.take_succ,hi]; rfl
    rw [tk,zaQ,Y1] at hQ
    have w:=WOk.walk (sh:=sh) (n0:=n0) (ns:=ns) (by omega) a K.z K.m (ps.take i) ⟨[],0⟩ w0 (fun q hq=>by
      obtain ⟨_,_,_,hs⟩:=Qaj d (cin q (List.mem_of_mem_take hq))
      rw [hsh] at hs; exact hs)
    have kl:=ZM ar n0 ns sh (ps.take i) ⟨[],0⟩
    have hl:(ps.take i).length≤60:=by simp; omega
    have ll:(QK ar n0 ns sh ⟨[],0⟩ (ps.take i)).length < sizeL:=by rw [qaM,yi]; omega
    generalize Yc ar n0 ns sh ⟨[],0⟩ (ps.take i)=s at *
    generalize QK ar n0 ns sh ⟨[],0⟩ (ps.take i)=es at *
    have hp:=cin p (List.mem_of_getElem? hi)
    obtain ⟨r,er,ev,hs⟩:=Qaj d hp
    rw [hsh] at ev hs
    have cT:ql (.code::(g++[.lst (es.map .f),.tab s.kvs,.dead])) (.ref (g.length + 2))=some s.kvs:=by
      have:=YbX .code (.lst (es.map MV.f)) g [.dead] s.kvs
      simp [ql]
    have D:=zax (n + 4) (.code::(g++[.lst (es.map .f),.tab s.kvs,.dead])) (g.length + 2) s.kvs p (.f av) ar (V _) cT al (hmul s w)
    have SA:=yaA (n + 1) (.code::(g++[.lst (es.map .f),.tab s.kvs,.dead])) most rows H W d p.1.toNat p.2.toNat (by omega) (by omega) r (sh p) er ev
    rw [show ((p.1.toNat:Nat):Int)=p.1 by omega,show ((p.2.toNat:Nat):Int)=p.2 by omega,hpic] at SA
    have E:=qbd (n + 3) (g++[.lst (es.map .f),.tab s.kvs,.dead]) (Yl p) (sh p) (s.odd + zo s.kvs ar p) (Ye ar) (.f iv) n0 ns (VI _) (by omega) (qv (by omega) (by omega))
    have eE:FV.tup [Yl p,.int ((s.odd + zo s.kvs ar p) / Ye ar),.int (Zm (sh p + (s.odd + zo s.kvs ar p) / Ye ar) n0 ns),.int (sh p + (s.odd + zo s.kvs ar p) / Ye ar - Zm (sh p + (s.odd + zo s.kvs ar p) / Ye ar) n0 ns),.int ((s.odd + zo s.kvs ar p) % Ye ar)] =
      Zbe p (Zp ar s p) (Zr ar n0 ns sh s p) (sh p + Zp ar s p - Zr ar n0 ns sh s p) (nxW ar n0 ns sh s p).odd:=rfl
    rw [eE] at E
    generalize hen:Zbe p (Zp ar s p) (Zr ar n0 ns sh s p) (sh p + Zp ar s p - Zr ar n0 ns sh s p) (nxW ar n0 ns sh s p).odd=en at E
    have s3:yb (.code::(g++[.lst (es.map .f++[.f en]),.tab s.kvs,.dead])) (.f en)=some [.f (Yl p),I (Zp ar s p),I (Zr ar n0 ns sh s p),I (sh p + Zp ar s p - Zr ar n0 ns sh s p),I (nxW ar n0 ns sh s p).odd]:=by rw [← hen]; rfl
    have s4:∀ hh,yb hh (.f en)=some [.f (Yl p),I (Zp ar s p),I (Zr ar n0 ns sh s p),I (sh p + Zp ar s p - Zr ar n0 ns sh s p),I (nxW ar n0 ns sh s p).odd]:=fun hh=>by rw [← hen]; rfl
    have t3:∀ a b c d e:MV,atM [a,b,c,d,e] 3=some d:=fun _ _ _ _ _=>rfl
    have t4:∀ a b c d e:MV,atM [a,b,c,d,e] 4=some e:=fun _ _ _ _ _=>rfl
    have c0:ze (.code::(g++[.lst (es.map .f),.tab s.kvs,.dead])) (g.length + 1)=some (es.map .f):=by
      have:=Zx (.code::g) [.tab s.kvs,.dead] (es.map MV.f); simpa using this
    have u0:qe (.code::(g++[.lst (es.map .f),.tab s.kvs,.dead])) (g.length + 1) (es.map .f++[.f en])=.code::(g++[.lst (es.map .f++[.f en]),.tab s.kvs,.dead]):=by
      have:=yJ (.code::g) [.tab s.kvs,.dead] (es.map MV.f) (es.map .f++[.f en]); simpa using this
    have cT2:ql (.code::(g++[.lst (es.map .f++[.f en]),.tab s.kvs,.dead])) (.ref (g.length + 2))=some s.kvs:=by simp [ql]
    have u1:∀ c,(Cell.code::(g++[.lst (es.map .f++[.f en]),.tab s.kvs,.dead])).set (g.length + 2) c=.code::(g++[.lst (es.map .f++[.f en]),c,.dead]):=fun c=>by
      have:(g++[Cell.lst (es.map .f++[.f en]),.tab s.kvs,.dead]).set (g.length + 1) c=g++[.lst (es.map .f++[.f en]),c,.dead]:=by
        rw [List.set_append_right _ _ (by omega),show g.length + 1 - g.length=1 by omega]; rfl
      simp [this]
    have pr:Zs (.f (Yl p))=some p:=rfl
    have kl2:s.kvs.length < 1000000:=by simp at kl; omega
    have ll2:(es.map MV.f).length < sizeL:=by simpa using ll
    have ew:QK ar n0 ns sh s [p]=[en]:=by rw [← hen]; rfl
    simp only [List.map_append,ew] at hQ
    generalize es.map MV.f=em at *
    have SA':run prog (n + 5) "shade_at" [.f pic,.f (Yl p)] (.code::(g++[.lst em,.tab s.kvs,.dead]))=.ok (I (sh p)) (.code::(g++[.lst em,.tab s.kvs,.dead])):=SA
    simp only [Zi]
    simp [D,SA',E,c0,u0,ll2,s4,t3,t4,cT2,pr,kl2,u1]
    exact hQ _ _ ⟨_,_,_,rfl,rfl⟩
  · rintro σ hh ⟨z8,z9,z10,rfl,rfl⟩
    rw [List.take_length]
    have F:=QbD .code g (QK ar n0 ns sh ⟨[],0⟩ ps) [.tab (Yc ar n0 ns sh ⟨[],0⟩ ps).kvs,.dead]
    have tr:=TrOk.app (.code::g) [.dead,.tab (Yc ar n0 ns sh ⟨[],0⟩ ps).kvs,.dead]
    generalize Yc ar n0 ns sh ⟨[],0⟩ ps=s at *
    generalize QK ar n0 ns sh ⟨[],0⟩ ps=es at *
    simp at D6
    generalize Zn most (qi (Zl H W) (ps.zip (zq ar n0 ns sh ⟨[],0⟩ ps)))=pp at *
    generalize es.map MV.f=em at *
    simp [F,D6,Zg,Qh,qg]
    simp at tr
    simp [tr]
    exact hQ _ _ ⟨rfl,rfl⟩
end
end MP
end
section
set_option maxHeartbeats 4000000
namespace MP
open PySem
structure ShOk (t:Int×Int×Int):Prop where
  s0:0≤t.2.2
  s1:t.2.2 < 2 ^ 100
  d0:-5≤t.1
  d1:t.1 < 2 ^ 99
  r0:-5≤t.2.1
  r1:t.2.1 < 100
  b:¬ (t.1 < 0∨(t.1=0∧t.2.1 < 1))
noncomputable def Qat:List MS:=[.expr (.lm "append" (.var 2) [.tup [.var 5,.var 6,.var 7]]),.ite (.cmp .eq (.bin true .mod (.bin true .fdiv (.var 4) (.cI 2100)) (.cI 6)) (.cI 0)) [.expr (.lm "append" (.var 2) [.tup [.var 5,.var 6,.var 7]])] []]
noncomputable def aroT2:List MS:=.ite (.cmp .eq (.bin true .mod (.bin true .fdiv (.var 4) (.cI 300)) (.cI 7)) (.cI 0)) [.set (.nm 7) (.call "_law_great" [.var 0,.var 1,.cI 50])] []::.ite (.cmp .eq (.bin true .mod (.bin true .fdiv (.var 4) (.cI 12600)) (.cI 9)) (.cI 0)) [.set (.nm 5) (.bin true .add (.cI 1) (.call "_law_great" [.var 0,.var 1,.cI 70]))] []::Qat
noncomputable def aroB:List MS:=.set (.nm 4) (.call "_law_next" [.var 0,.var 1])::.set (.nm 5) (.sub (.lst true [.cI 0,.cI 1,.cI 1,.cI 2,.cI 3]) (.bin true .mod (.var 4) (.cI 5)))::.set (.nm 6) (.bin true .sub (.bin true .mod (.bin true .fdiv (.var 4) (.cI 5)) (.cI 7)) (.cI 3))::.ite (.cmp .eq (.var 5) (.cI 0)) [.set (.nm 6) (.bin true .add (.cI 1) (.bin true .mod (.bin true .fdiv (.var 4) (.cI 5)) (.cI 3)))] []::.set (.nm 7) (.sub (.lst true [.cI 7,.cI 3,.cI 5,.cI 1,.cI 0,.cI 2]) (.bin true .mod (.bin true .fdiv (.var 4) (.cI 35)) (.cI 6)))::aroT2
noncomputable abbrev Qz (h:MH) (ar:Aro) (j:Int):MH:=.code::atC j::(h++[.lst (ar.map fun t=>MV.f (ye t))])
section
variable (n:Nat) (h:MH)
theorem qbW (ns:List Int) (ar:Aro) (i:Nat) (y d rt s j:Int) (al:ar.length≤12) (Q:MSt→MH→Prop)
    (f1:Q [some (.f (.scr ns)),some (.ref 1),some (.ref (h.length + 2)),some (I i),some (I y),some (I d),some (I rt),some (I s)] (Qz h (ar++[(d,rt,s)]) j))
    (f2:Q [some (.f (.scr ns)),some (.ref 1),some (.ref (h.length + 2)),some (I i),some (I y),some (I d),some (I rt),some (I s)] (Qz h (ar++[(d,rt,s),(d,rt,s)]) j)) :
    Nx (qb prog (run prog (n + 2)) Qat [some (.f (.scr ns)),some (.ref 1),some (.ref (h.length + 2)),some (I i),some (I y),some (I d),some (I rt),some (I s)] (Qz h ar j)) Q:=by
  have cl:=Z6 .code (atC j) h [] (ar.map fun t=>MV.f (ye t))
  have us:=fun ys=>ya8 .code (atC j) h [] (ar.map fun t=>MV.f (ye t)) ys
  have cl2:=fun t:Int×Int×Int=>Z6 .code (atC j) h [] ((ar.map fun t=>MV.f (ye t))++[.f (ye t)])
  have us2:=fun (t:Int×Int×Int) ys=>ya8 .code (atC j) h [] ((ar.map fun t=>MV.f (ye t))++[.f (ye t)]) ys
  have d2100:∀ hh,zf true .fdiv (I y) (I 2100) hh=.ok (I (y / 2100)) hh:=fun hh=>zg _ _ _ ⟨by decide,.inl (by decide)⟩
  have m6:∀ a hh,zf true .mod (I a) (I 6) hh=.ok (I (a % 6)) hh:=fun a hh=>Qd _ _ _ (by decide)
  have mk3:∀ a b c:Int,Zg [I a,I b,I c]=.f (ye (a,b,c)):=fun _ _ _=>rfl
  have l1:(ar.map fun t=>MV.f (ye t)).length < sizeL:=by simp [yi]; omega
  have l2:∀ t:Int×Int×Int,((ar.map fun t=>MV.f (ye t))++[MV.f (ye t)]).length < sizeL:=fun t=>by simp [yi]; omega
  simp only [Qz,List.map_append,List.map_cons,List.map_nil] at f1 f2 ⊢
  generalize (ar.map fun t=>MV.f (ye t))=A at *
  generalize y / 2100=yy at *
  have f2':Q [some (.f (.scr ns)),some (.ref 1),some (.ref (h.length + 2)),some (I i),some (I y),some (I d),some (I rt),some (I s)] (.code::atC j::(h++[.lst ((A++[.f (ye (d,rt,s))])++[.f (ye (d,rt,s))])])):=by simpa using f2
  clear f2
  generalize hB:A++[MV.f (ye (d,rt,s))]=B at *
  have cl3:=cl2 (d,rt,s)
  have us3:=us2 (d,rt,s)
  have l3:=l2 (d,rt,s)
  rw [hB] at cl3 us3 l3
  clear cl2 us2 l2
  simp only [Qat]
  by_cases c3:yy % 6=0
  · simp [mk3,cl,l1,us,hB,d2100,m6,c3,cl3,l3,us3]
    exact f2'
  · simp [mk3,cl,l1,us,hB,d2100,m6,c3]
    exact f1
theorem Qb6 (ns:List Int) (ar:Aro) (i:Nat) (y dn rt sr kk:Int) (al:ar.length≤12) (hk:0≤kk) (hk2:kk + 10 < 1000000) (dn0:0≤dn) (dn1:dn≤3) (sr0:0≤sr) (sr1:sr≤7) (rt0:-5≤rt) (rt1:rt < 100) (rtb:dn=0→1≤rt) (Q:MSt→MH→Prop)
    (f:∀ (ar':Aro) (j d s:Int),ar'.length≤ar.length + 2→(∀ t∈ar',t∈ar∨ShOk t)→kk≤j→j≤kk + 2→Q [some (.f (.scr ns)),some (.ref 1),some (.ref (h.length + 2)),some (I i),some (I y),some (I d),some (I rt),some (I s)] (Qz h ar' j)) :
    Nx (qb prog (run prog (n + 2)) aroT2 [some (.f (.scr ns)),some (.ref 1),some (.ref (h.length + 2)),some (I i),some (I y),some (I dn),some (I rt),some (I sr)] (Qz h ar kk)) Q:=by
  obtain ⟨g1,g10,g11,G1⟩:=QL n (h++[.lst (ar.map fun t=>MV.f (ye t))]) ns kk 50 (by omega) (by omega) (by decide)
  obtain ⟨g2,g20,g21,G2⟩:=QL n (h++[.lst (ar.map fun t=>MV.f (ye t))]) ns kk 70 (by omega) (by omega) (by decide)
  obtain ⟨g3,g30,g31,G3⟩:=QL n (h++[.lst (ar.map fun t=>MV.f (ye t))]) ns (kk + 1) 70 (by omega) (by omega) (by decide)
  have d300:∀ hh,zf true .fdiv (I y) (I 300) hh=.ok (I (y / 300)) hh:=fun hh=>zg _ _ _ ⟨by decide,.inl (by decide)⟩
  have d126:∀ hh,zf true .fdiv (I y) (I 12600) hh=.ok (I (y / 12600)) hh:=fun hh=>zg _ _ _ ⟨by decide,.inl (by decide)⟩
  have m7:∀ a hh,zf true .mod (I a) (I 7) hh=.ok (I (a % 7)) hh:=fun a hh=>Qd _ _ _ (by decide)
  have m9:∀ a hh,zf true .mod (I a) (I 9) hh=.ok (I (a % 9)) hh:=fun a hh=>Qd _ _ _ (by decide)
  have sk:∀ d s:Int,(d=dn∨1≤d)→d < 2 ^ 99→0≤s→s < 2 ^ 100→ShOk (d,rt,s):=fun d s h1 h2 h3 h4=>⟨h3,h4,by simp; omega,h2,rt0,rt1,by simp; omega⟩
  have T:∀ d s j:Int,(d=dn∨1≤d)→d < 2 ^ 99→0≤s→s < 2 ^ 100→kk≤j→j≤kk + 2→Nx (qb prog (run prog (n + 2)) Qat [some (.f (.scr ns)),some (.ref 1),some (.ref (h.length + 2)),some (I i),some (I y),some (I d),some (I rt),some (I s)] (Qz h ar j)) Q:=fun d s j h1 h2 h3 h4 h5 h6=>by
    have k:=sk d s h1 h2 h3 h4
    refine qbW n h ns ar i y d rt s j al Q (f _ j d s (by simp) (fun t ht=>?_) h5 h6) (f _ j d s (by simp) (fun t ht=>?_) h5 h6)
    · rcases List.mem_append.mp ht with ht | ht
      · exact .inl ht
      · simp at ht; subst ht; exact .inr k
    · rcases List.mem_append.mp ht with ht | ht
      · exact .inl ht
      · simp at ht; subst ht; exact .inr k
  simp only [Qz] at T ⊢
  generalize (h++[Cell.lst (ar.map fun t=>MV.f (ye t))])=HH at *
  generalize y / 300=y3 at *
  generalize y / 12600=y1 at *
  have e:aroT2=[aroT2.getD 0 .pass,aroT2.getD 1 .pass]++Qat:=rfl
  generalize hT3:Qat=T3 at *
  simp only [aroT2,hT3]
  by_cases c1:y3 % 7=0 <;> by_cases c2:y1 % 9=0
  · simp [d300,d126,m7,m9,c1,c2,G1,G3]
    exact T _ _ _ (.inr (by omega)) (by omega) (by omega) (by omega) (by omega) (by omega)
  · simp [d300,d126,m7,m9,c1,c2,G1]
    exact T _ _ _ (.inl rfl) (by omega) (by omega) (by omega) (by omega) (by omega)
  · simp [d300,d126,m7,m9,c1,c2,G2]
    exact T _ _ _ (.inr (by omega)) (by omega) (by omega) (by omega) (by omega) (by omega)
  · simp [d300,d126,m7,m9,c1,c2]
    exact T _ _ _ (.inl rfl) (by omega) (by omega) (by omega) (by omega) (by omega)
theorem Qbw (ns:List Int) (ar:Aro) (i:Nat) (kk:Int) (z3 z4 z5 z6 z7:Option MV) (al:ar.length≤12) (hk:0≤kk) (hk2:kk + 20 < 1000000) (Q:MSt→MH→Prop)
    (f:∀ (ar':Aro) (j:Int) (z3 z4 z5 z6 z7:Option MV),ar'.length≤ar.length + 2→(∀ t∈ar',t∈ar∨ShOk t)→kk≤j→j≤kk + 3→Q [some (.f (.scr ns)),some (.ref 1),some (.ref (h.length + 2)),z3,z4,z5,z6,z7] (Qz h ar' j)) :
    Nx (Zi (.nm 3) (qb prog (run prog (n + 2)) aroB) (I i) [some (.f (.scr ns)),some (.ref 1),some (.ref (h.length + 2)),z3,z4,z5,z6,z7] (Qz h ar kk)) Q:=by
  have M:=yk (n + 1) (h++[.lst (ar.map fun t=>MV.f (ye t))]) ns kk (by omega) (by omega)
  have hd:=Yo ns (kk + 1)
  generalize YK ns (kk + 1)=y at M hd
  have d5:∀ hh,zf true .fdiv (I y) (I 5) hh=.ok (I (y / 5)) hh:=fun hh=>zg _ _ _ ⟨by decide,.inl (by decide)⟩
  have d35:∀ hh,zf true .fdiv (I y) (I 35) hh=.ok (I (y / 35)) hh:=fun hh=>zg _ _ _ ⟨by decide,.inl (by decide)⟩
  have m5:∀ a hh,zf true .mod (I a) (I 5) hh=.ok (I (a % 5)) hh:=fun a hh=>Qd _ _ _ (by decide)
  have m7:∀ a hh,zf true .mod (I a) (I 7) hh=.ok (I (a % 7)) hh:=fun a hh=>Qd _ _ _ (by decide)
  have m3:∀ a hh,zf true .mod (I a) (I 3) hh=.ok (I (a % 3)) hh:=fun a hh=>Qd _ _ _ (by decide)
  have m6:∀ a hh,zf true .mod (I a) (I 6) hh=.ok (I (a % 6)) hh:=fun a hh=>Qd _ _ _ (by decide)
  obtain ⟨dn,dn0,dn1,ed⟩:∃ v:Int,0≤v∧v≤3∧atM [I 0,I 1,I 1,I 2,I 3] (y % 5)=some (I v):=by
    have h5:=Yi y 5 (by decide)
    obtain ⟨w,hw,e⟩:=YW [I 0,I 1,I 1,I 2,I 3] _ h5.1 (by simpa using h5.2)
    simp only [List.mem_cons,List.not_mem_nil,or_false] at hw
    rcases hw with rfl | rfl | rfl | rfl | rfl
    all_goals exact ⟨_,by omega,by omega,e⟩
  obtain ⟨sr,sr0,sr1,es⟩:∃ v:Int,0≤v∧v≤7∧atM [I 7,I 3,I 5,I 1,I 0,I 2] (y / 35 % 6)=some (I v):=by
    have h6:=Yi (y / 35) 6 (by decide)
    obtain ⟨w,hw,e⟩:=YW [I 7,I 3,I 5,I 1,I 0,I 2] _ h6.1 (by simpa using h6.2)
    simp only [List.mem_cons,List.not_mem_nil,or_false] at hw
    rcases hw with rfl | rfl | rfl | rfl | rfl | rfl
    all_goals exact ⟨_,by omega,by omega,e⟩
  have r7:=Yi (y / 5) 7 (by decide)
  have r3:=Yi (y / 5) 3 (by decide)
  have T:=fun rt rt0 rt1 rtb=>Qb6 n h ns ar i y dn rt sr (kk + 1) al (by omega) (by omega) dn0 dn1 sr0 sr1 rt0 rt1 rtb Q (fun ar' j d s h1 h2 h3 h4=>f ar' j _ _ _ _ _ h1 h2 (by omega) (by omega))
  simp only [Qz] at T ⊢
  generalize (h++[Cell.lst (ar.map fun t=>MV.f (ye t))])=HH at *
  generalize hT2:aroT2=T2 at *
  simp only [aroB,hT2]
  by_cases c:dn=0
  · subst c
    have T':=T (1 + y / 5 % 3) (by omega) (by omega) (by omega)
    simp [Zi,M,m5,m7,m3,m6,d5,d35,ed,es,Qh]
    exact T'
  · have T':=T (y / 5 % 7 - 3) (by omega) (by omega) (by omega)
    simp [Zi,M,m5,m7,m3,m6,d5,d35,ed,es,Qh,c]
    exact T'
theorem qbG (ar:Aro) (so:∀ t∈ar,ShOk t):0≤Ye ar:=by
  induction ar with
  | nil=>simp [Ye]
  | cons t r ih =>
    have e1:Ye (t::r)=t.2.2 + Ye r:=by simp [Ye]
    have:=(so t (by simp)).s0
    have:=ih fun t ht=>so t (by simp [ht])
    omega
theorem YaV (ns:List Int) (k:Int) (hk:0≤k) (hk2:k + 100 < 1000000) :
    Ret (run prog (n + 3) "_law_around" [.f (.scr ns),.ref 1] (.code::atC k::h)) fun v h'=>∃ (ar:Aro) (kk:Int),AOk ar∧(∀ t∈ar,¬ (t.1 < 0∨(t.1=0∧t.2.1 < 1)))∧k≤kk∧kk≤k + 100∧v=.f (sq false (ar.map ye))∧h'=.code::atC kk::h:=by
  refine Ret.of fun Q hQ=>?_
  have hd:=Yo ns (k + 1)
  have N':=yk (n + 1) (h++[.lst []]) ns k hk (by omega)
  generalize YK ns (k + 1)=x at N' hd
  have h4:=Yi x 4 (by decide)
  obtain ⟨T,hT6,e⟩:∃ T:Nat,T≤6∧atM [I 1,I 2,I 4,I 6] (x % 4)=some (I T):=by
    have:x % 4=0∨x % 4=1∨x % 4=2∨x % 4=3:=by omega
    rcases this with e | e | e | e <;> rw [e]
    · exact ⟨1,by omega,rfl⟩
    · exact ⟨2,by omega,rfl⟩
    · exact ⟨4,by omega,rfl⟩
    · exact ⟨6,by omega,rfl⟩
  rw [Yaa]
  simp only [d__law_around]
  generalize hb:([_,_,_,_,_,_,_,_,_]:List MS)=bd
  simp [N',Qd,Qh,e,Qk _ (T:Int) (by omega)]
  refine Yp (Q:=fun r=>Ret (Zd _ r) _) T (fun i σ hh=>∃ (ar:Aro) (kk:Int) (z3 z4 z5 z6 z7:Option MV),(∀ t∈ar,ShOk t)∧ar.length≤2 * i∧k + 1≤kk∧kk≤k + 1 + 3 * (i:Int)∧hh=Qz h ar kk∧σ=[some (.f (.scr ns)),some (.ref 1),some (.ref (h.length + 2)),z3,z4,z5,z6,z7]) ?_ ?_ ?_
  · exact ⟨[],k + 1,none,none,none,none,none,by simp,by simp,by omega,by omega,by simp,rfl⟩
  · rintro i σ hh hi ⟨ar,kk,z3,z4,z5,z6,z7,so,al,k1,k2,rfl,rfl⟩ Q hQ
    rw [← hb]
    exact Qbw n h ns ar i kk z3 z4 z5 z6 z7 (by omega) (by omega) (by omega) Q fun ar' j z3 z4 z5 z6 z7 h1 h2 h3 h4=>hQ _ _ ⟨ar',j,z3,z4,z5,z6,z7,fun t ht=>(h2 t ht).elim (so t) id,by omega,by omega,by omega,rfl,rfl⟩
  · rintro σ hh ⟨ar,kk,z3,z4,z5,z6,z7,so,al,k1,k2,rfl,rfl⟩
    have cl:=Z6 .code (atC kk) h [] (ar.map fun t=>MV.f (ye t))
    have us:=fun ys=>ya8 .code (atC (kk + 1)) h [] (ar.map fun t=>MV.f (ye t)) ys
    have cl1:=Z6 .code (atC (kk + 1)) h [] (ar.map fun t=>MV.f (ye t))
    have hs:yb (Qz h ar kk) (.ref (h.length + 2))=some (ar.map fun t=>MV.f (ye t)):=cl
    have hg:Zc (Qz h ar kk) (.ref (h.length + 2))=[(h.length + 2,ar.map fun t=>MV.f (ye t))]:=by simp [Zc,Qz,cl]
    have iS:itV "seq" [.ref (h.length + 2)] (Qz h ar kk)=some (ar.map fun t=>MV.f (ye t),[(h.length + 2,ar.map fun t=>MV.f (ye t))]):=by
      simp only [itV,hs,hg,Option.map_some]
    have CS:=Qy (G:=[(h.length + 2,ar.map fun t=>MV.f (ye t))]) (h:=Qz h ar kk) (QaG cl) ar (by omega) none none none
    have hsum:Yv true "sum" [.f (Qa false (ar.map fun t=>t.2.2))] (Qz h ar kk)=.ok (I (Ye ar)) (Qz h ar kk):=by
      have qr:∀ L:List Int,yb (Qz h ar kk) (.f (Qa false L))=some (L.map (MV.f∘FV.int)):=fun L=>by simp [Qa]
      rw [zn,qr]
      generalize hL:(ar.map fun t=>t.2.2)=L
      have st:(ar.map fun t=>t.2.2).sum=Ye ar:=rfl
      rw [← st,hL]
      simp
    have t0:=qbG ar so
    have aok:∀ ar':Aro,(∀ t∈ar',ShOk t)→ar'.length≤20→1≤Ye ar'→AOk ar':=fun ar' h1 h2 h3=>⟨h3,fun t ht=>(h1 t ht).s0,fun t ht=>by have q:=h1 t ht; have:=q.s1; have:=q.d0; have:=q.d1; have:=q.r0; have:=q.r1; omega,by omega⟩
    generalize Qa false (ar.map fun t=>t.2.2)=sv at CS hsum
    by_cases c:Ye ar=0
    · have N2:=yk (n + 1) (h++[.lst (ar.map fun t=>MV.f (ye t))]) ns kk (by omega) (by omega)
      have hd:=Yo ns (kk + 1)
      generalize YK ns (kk + 1)=y at N2 hd
      have h9:=Yi y 9 (by decide)
      have mk3:Zg [I 1,I 0,I (1 + y % 9)]=.f (ye (1,0,1 + y % 9)):=rfl
      have sk:ShOk (1,0,1 + y % 9):=⟨by simp; omega,by simp; omega,by simp,by simp,by simp,by simp,by simp⟩
      have F:=ZY .code (atC (kk + 1)) h ((ar++[(1,0,1 + y % 9)]).map ye)
      have ll:(ar.map fun t=>MV.f (ye t)).length < sizeL:=by simp [yi]; omega
      have lv:=Yak k (kk + 1) h [.dead] (.lst ((ar++[(1,0,1 + y % 9)]).map ye))
      have e2:((ar++[(1,0,1 + y % 9)]).map ye).map MV.f=(ar.map fun t=>MV.f (ye t))++[MV.f (ye (1,0,1 + y % 9))]:=by simp
      rw [e2] at F
      have tt:Ye (ar++[(1,0,1 + y % 9)])=Ye ar + (1 + y % 9):=by simp [Ye]
      have fin:=hQ _ _ ⟨ar++[(1,0,1 + y % 9)],kk + 1,aok _ (fun t ht=>by
        rcases List.mem_append.mp ht with ht | ht
        · exact so t ht
        · simp at ht; subst ht; exact sk) (by simp; omega) (by omega),(fun t ht=>by
        rcases List.mem_append.mp ht with ht | ht
        · exact (so t ht).b
        · simp at ht; subst ht; exact sk.b),by omega,by omega,rfl,rfl⟩
      simp only [sq] at fin
      simp only [Qz] at *
      generalize (ar.map fun t=>MV.f (ye t))=A at *
      generalize ye (1,0,1 + y % 9)=nt at *
      generalize (ar++[(1,0,1 + y % 9)]).map ye=L at *
      simp [iS,MP.stM,CS,hsum,c,cl,N2,Qd,mk3,cl1,ll,us,F,lv,-zn]
      exact fin
    · have F:=ZY .code (atC kk) h (ar.map ye)
      have lv:=Yak k kk h [.dead] (.lst (ar.map ye))
      have e2:(ar.map ye).map MV.f=(ar.map fun t=>MV.f (ye t)):=by simp
      rw [e2] at F
      have fin:=hQ _ _ ⟨ar,kk,aok _ so (by omega) (by omega),fun t ht=>(so t ht).b,by omega,by omega,rfl,rfl⟩
      simp only [sq] at fin
      simp only [Qz] at *
      generalize (ar.map fun t=>MV.f (ye t))=A at *
      generalize ar.map ye=L at *
      simp [iS,MP.stM,CS,hsum,c,F,lv,-zn]
      exact fin
end
end MP
end
section
set_option maxHeartbeats 2000000
namespace MP
open PySem
theorem Yad (rows:List (List Int)) (ps qs:List ((Int×Int)×Int)):qi rows (ps++qs)=qi (qi rows ps) qs:=by simp [qi]
theorem za8 (A B:List (List Int)) (x:List Int) (c:Nat) (v:Int):yr (A++x::B) A.length c v=A++x.set c v::B:=by
  unfold yr
  rw [List.modify_eq_set]
  simp
theorem qah (A B:List (List Int)) (W:Nat):∀ (c:Nat) (vs:List Int),vs.length=c→c≤W→qi (A++List.replicate W 0::B) ((zr A.length c).zip vs)=A++(vs++List.replicate (W - c) 0)::B
  | 0,vs,h,_=>by
    have:vs=[]:=List.length_eq_zero_iff.mp h
    subst this
    simp [zr,qi]
  | c + 1,vs,h,hc=>by
    obtain ⟨us,v,rfl⟩:∃ us v,vs=us++[v]:=⟨vs.dropLast,vs.getLast (by intro e; subst e; simp at h),(List.dropLast_concat_getLast _).symm⟩
    have hu:us.length=c:=by simp at h; omega
    rw [ZL,List.zip_append (by rw [QJ,hu]),Yad,qah A B W c us hu (by omega)]
    show yr (A++(us++List.replicate (W - c) 0)::B) ((A.length:Int)).toNat ((c:Int)).toNat v=_
    rw [Int.toNat_natCast,Int.toNat_natCast,za8]
    congr 2
    obtain ⟨m,hm⟩:∃ m,W - c=m + 1:=⟨W - c - 1,by omega⟩
    rw [hm,show W - (c + 1)=m by omega,List.replicate_succ,← hu]
    simp
theorem qbg (ar:Aro) (n0:Int) (ns:List Int) (sh:Int×Int→Int) (H W:Nat):qi (List.replicate H (List.replicate W 0)) ((Ya H W).zip (zq ar n0 ns sh ⟨[],0⟩ (Ya H W)))=Ql ar n0 ns sh W H:=by
  have key:∀ r,r≤H→qi (List.replicate H (List.replicate W 0)) ((Ya r W).zip (zq ar n0 ns sh ⟨[],0⟩ (Ya r W)))=Ql ar n0 ns sh W r++List.replicate (H - r) (List.replicate W 0):=by
    intro r
    induction r with
    | zero=>intro _; simp [Ya,Qj,qi,Ql]
    | succ r ih =>
      intro hr
      rw [yp,YT,List.zip_append (by rw [Zz]),Yad,ih (by omega)]
      obtain ⟨m,hm⟩:∃ m,H - r=m + 1:=⟨H - r - 1,by omega⟩
      have lm:(Ql ar n0 ns sh W r).length=r:=by simp [Ql]
      have:=qah (Ql ar n0 ns sh W r) (List.replicate m (List.replicate W 0)) W W (yO ar n0 ns sh W r) (by simp [yO,Zz,QJ]) (Nat.le_refl _)
      rw [lm] at this
      rw [hm,List.replicate_succ,show H - (r + 1)=m by omega,qag]
      unfold yO at this ⊢
      rw [this]
      simp
  have:=key H (Nat.le_refl _)
  simpa using this
theorem Zbc (ar:Aro) (n0:Int) (ns:List Int) (sh:Int×Int→Int) (H W:Nat):(Ql ar n0 ns sh W H).length=H:=by simp [Ql]
theorem ybf (ar:Aro) (n0:Int) (ns:List Int) (sh:Int×Int→Int) (H W:Nat):∀ r∈Ql ar n0 ns sh W H,r.length=W:=fun r hr=>by
  obtain ⟨i,_,rfl⟩:=List.mem_map.mp hr
  simp [yO,Zz,QJ]
end MP
end
section
set_option maxHeartbeats 4000000
namespace MP
open PySem
theorem ZbD (ar:Aro) (n0:Int) (ns:List Int) (sh:Int×Int→Int):∀ (ps qs:List (Int×Int)) (p:Int×Int) (s:WS),(zq ar n0 ns sh s (ps++p::qs))[ps.length]?=some (Zr ar n0 ns sh (Yc ar n0 ns sh s ps) p):=by
  intro ps qs p s
  rw [YT,List.getElem?_append_right (by rw [Zz]; exact Nat.le_refl _),Zz]
  simp [zq]
theorem ZaW (r W c:Nat) (hc:c < W):∃ qs,zr r W=zr r c++((r:Int),(c:Int))::qs:=by
  have e:List.range W=List.range c++c::(List.range (W - c - 1)).map (c + 1 + ·):=by
    apply List.ext_getElem?
    intro i
    rcases Nat.lt_trichotomy i c with h | h | h
    · rw [List.getElem?_append_left (by simpa using h),List.getElem?_range h,List.getElem?_range (by omega)]
    · subst h; rw [List.getElem?_append_right (by simp)]; simp [List.getElem?_range hc]
    · rw [List.getElem?_append_right (by simp; omega)]
      obtain ⟨m,hm⟩:∃ m,i - c=m + 1:=⟨i - c - 1,by omega⟩
      simp only [List.length_range,hm,List.getElem?_cons_succ,List.getElem?_map]
      by_cases hi:i < W
      · rw [List.getElem?_range hi,List.getElem?_range (by omega)]; simp; omega
      · rw [List.getElem?_eq_none (by simpa using hi),List.getElem?_eq_none (by simp; omega)]; rfl
  refine ⟨((List.range (W - c - 1)).map (c + 1 + ·)).map fun c:Nat=>((r:Int),(c:Int)),?_⟩
  unfold zr
  rw [e,List.map_append,List.map_cons]
theorem ybq (ar:Aro) (n0:Int) (ns:List Int) (sh:Int×Int→Int) (W r c:Nat) (hc:c < W):(yO ar n0 ns sh W r)[c]?=some (Zr ar n0 ns sh (Yc ar n0 ns sh (Yc ar n0 ns sh ⟨[],0⟩ (Ya r W)) (zr r c)) ((r:Int),(c:Int))):=by
  obtain ⟨qs,e⟩:=ZaW r W c hc
  have:=ZbD ar n0 ns sh (zr r c) qs ((r:Int),(c:Int)) (Yc ar n0 ns sh ⟨[],0⟩ (Ya r W))
  rw [← e,QJ] at this
  exact this
section
variable (n:Nat) (h:MH)
theorem ybh (most:Int) (rows:List (List Int)) (H W:Nat) (d:Drawn most rows H W) (hm:1≤most) (hm2:most≤100000000000000000000000000) (h1:1≤H) (h2:H≤60) (w1:1≤W) (w2:W≤60) (hw:H * W≤60) (ar:Aro) (a:AOk ar)
    (n0:Int) (ns:List Int) (K:Inks most (n0::ns)) :
    run prog (n + 1) "_law_lefts" [.f (Yd false false rows),.f (Yd true true (Ql ar n0 ns (shF rows) W H)),.f (sq false (ar.map ye))] h=.ok (.f (.tab (Yc ar n0 ns (shF rows) ⟨[],0⟩ (Ya H W)).kvs)) h:=by
  suffices Ret (run prog (n + 1) "_law_lefts" [.f (Yd false false rows),.f (Yd true true (Ql ar n0 ns (shF rows) W H)),.f (sq false (ar.map ye))] h) fun v h'=>v=.f (.tab (Yc ar n0 ns (shF rows) ⟨[],0⟩ (Ya H W)).kvs)∧h'=h by
    obtain ⟨v,h',e,rfl,rfl⟩:=this
    exact e
  have al:ar.length≤1000:=by have:=a.n; omega
  have tpos:=a.t
  have tb:=ZaF a
  have qa:∀ hh,yb hh (.f (sq false (ar.map ye)))=some (ar.map fun t=>.f (ye t)):=fun hh=>(yab hh false ar).q
  have ga:∀ hh,Zc hh (.f (sq false (ar.map ye)))=[]:=fun hh=>rfl
  have qR:∀ hh,yb hh (.f (Yd false false rows))=some (rows.map (MV.f∘Qa false)):=fun hh=>by simp [Yd]
  have CS:=fun hh=>Qy (yu hh) ar al none none none
  have hsum:∀ hh,Yv true "sum" [.f (Qa false (ar.map fun t=>t.2.2))] hh=.ok (I (Ye ar)) hh:=fun hh=>by
    have qr:∀ L:List Int,yb hh (.f (Qa false L))=some (L.map (MV.f∘FV.int)):=fun L=>by simp [Qa]
    rw [zn,qr]
    generalize hL:(ar.map fun t=>t.2.2)=L
    have st:(ar.map fun t=>t.2.2).sum=Ye ar:=rfl
    rw [← st,hL]
    simp
  have w0:WOk most ar ⟨[],0⟩:=⟨fun kv h=>by simp at h,by simp; omega⟩
  have hmul:∀ (s:WS),WOk most ar s→∀ t∈ar,∀ k,Zw t.2.2 (zh s.kvs k):=fun s w t ht k=>by
    have z:=zU (by omega) w.l k
    have b:=a.b t ht
    have c:=a.s t ht
    exact .inr (.inr ⟨qv (by omega) (by omega),qv (by omega) (by omega)⟩)
  have rl:=d.len
  obtain ⟨r0,er0,lr0⟩:∃ r,rows[0]?=some r∧r.length=W:=⟨_,List.getElem?_eq_getElem (by omega),d.wid _ (List.getElem_mem (by omega))⟩
  have aR:∀ (i:Nat) (r:List Int),rows[i]?=some r→atM (rows.map (MV.f∘Qa false)) (i:Int)=some (.f (Qa false r)):=fun i r e=>by rw [Yn,List.getElem?_map,e]; rfl
  have aR0:atM (rows.map (MV.f∘Qa false)) 0=some (.f (Qa false r0)):=aR 0 r0 er0
  have qr:∀ (b:Bool) (r:List Int) hh,yb hh (.f (Qa b r))=some (r.map (MV.f∘FV.int)):=fun b r hh=>by simp [Qa]
  have qD:∀ hh,yb hh (.f (Yd true true (Ql ar n0 ns (shF rows) W H)))=some ((Ql ar n0 ns (shF rows) W H).map (MV.f∘Qa true)):=fun hh=>by simp [Yd]
  have aD:∀ r:Nat,r < H→atM ((Ql ar n0 ns (shF rows) W H).map (MV.f∘Qa true)) (r:Int)=some (.f (Qa true (yO ar n0 ns (shF rows) W r))):=fun r hr=>by
    rw [Yn,List.getElem?_map]
    simp [Ql,List.getElem?_range hr]
  generalize hrv:Yd false false rows=rv at *
  generalize hdv:Yd true true (Ql ar n0 ns (shF rows) W H)=dv at *
  generalize (Ql ar n0 ns (shF rows) W H).map (MV.f∘Qa true)=dl at *
  generalize hav:sq false (ar.map ye)=av at *
  generalize hsv:Qa false (ar.map fun t=>t.2.2)=sv at CS hsum
  have cin:∀ r c:Nat,r < H→c < W→∃ row,rows[r]?=some row∧row[c]?=some (shF rows ((r:Int),(c:Int)))∧0≤shF rows ((r:Int),(c:Int))∧shF rows ((r:Int),(c:Int))≤most:=fun r c hr hc=>by
    have:=Qaj d (p:=((r:Int),(c:Int))) (by simp; omega)
    simpa using this
  have cinZ:∀ p∈Ya H W,0≤shF rows p∧shF rows p≤most:=fun p hp=>by
    obtain ⟨_,_,_,hs⟩:=Qaj d (Qp hp); exact hs
  generalize hsh:shF rows=sh at *
  have iS:∀ hh,itV "seq" [.f av] hh=some (ar.map fun t=>MV.f (ye t),[]):=fun hh=>by simp [itV,qa,ga]
  refine Ret.of fun Q hQ=>?_
  rw [qaf]
  simp only [d__law_lefts]
  simp [iS,MP.stM,CS,hsum,qR,rl,Qk _ (H:Int) (by omega),-zn]
  refine Yp (Q:=fun r=>Ret (Zd _ r) _) H (fun r σ hh=>∃ (z6 z7 z8 z9 z10 z11:Option MV),hh=h++[.tab (Yc ar n0 ns sh ⟨[],0⟩ (Ya r W)).kvs] ∧
    σ=[some (.f rv),some (.f dv),some (.f av),some (.ref h.length),some (I (Yc ar n0 ns sh ⟨[],0⟩ (Ya r W)).odd),some (I (Ye ar)),z6,z7,z8,z9,z10,z11]) ?_ ?_ ?_
  · exact ⟨none,none,none,none,none,none,by simp [Yc,Ya,Qj],by simp [Yc,Ya,Qj]⟩
  · rintro r σ hh hr ⟨z6,z7,z8,z9,z10,z11,rfl,rfl⟩ Q hQ
    simp only [yp,Y1] at hQ
    have w:=WOk.walk (sh:=sh) (n0:=n0) (ns:=ns) (by omega) a K.z K.m (Ya r W) ⟨[],0⟩ w0 (fun q hq=>cinZ q (by
      unfold Ya Qj at hq ⊢
      simp only [List.mem_map,List.mem_flatMap,List.mem_range] at hq ⊢
      obtain ⟨x,⟨y,hy,z⟩,e⟩:=hq
      exact ⟨x,⟨y,by omega,z⟩,e⟩))
    have kl:=ZM ar n0 ns sh (Ya r W) ⟨[],0⟩
    have hrW:(r + 1) * W≤H * W:=Nat.mul_le_mul_right _ hr
    rw [Nat.add_mul] at hrW
    rw [qad] at kl
    simp only [List.length_nil,Nat.zero_add] at kl
    have aDr:=aD r hr
    have lat:=fun c hc=>ybq ar n0 ns sh W r c hc
    generalize yO ar n0 ns sh W r=line at *
    generalize Yc ar n0 ns sh ⟨[],0⟩ (Ya r W)=s0 at *
    simp [Zi,qR,aR0,qr,lr0,Qk _ (W:Int) (by omega)]
    refine Yp (Q:=fun r=>Nx r _) W (fun c σ hh=>∃ (z7 z8 z9 z10 z11:Option MV),hh=h++[.tab (Yc ar n0 ns sh s0 (zr r c)).kvs] ∧
      σ=[some (.f rv),some (.f dv),some (.f av),some (.ref h.length),some (I (Yc ar n0 ns sh s0 (zr r c)).odd),some (I (Ye ar)),some (I r),z7,z8,z9,z10,z11]) ?_ ?_ ?_
    · exact ⟨z7,z8,z9,z10,z11,by simp [Yc,zr],by simp [Yc,zr]⟩
    · rintro c σ hh hc ⟨z7,z8,z9,z10,z11,rfl,rfl⟩ Q hQ
      simp only [ZL,Y1] at hQ
      have w1:=WOk.walk (sh:=sh) (n0:=n0) (ns:=ns) (by omega) a K.z K.m (zr r c) s0 w (fun q hq=>by
        obtain ⟨x,hx,rfl⟩:=List.mem_map.mp hq
        obtain ⟨_,_,_,hs⟩:=cin r x hr (by have:=List.mem_range.mp hx; omega)
        exact hs)
      have kl1:=ZM ar n0 ns sh (zr r c) s0
      rw [QJ] at kl1
      obtain ⟨row,er,ev,hs⟩:=cin r c hr hc
      have lc:=lat c hc
      generalize Yc ar n0 ns sh s0 (zr r c)=s at *
      generalize hp:((r:Int),(c:Int))=p at *
      have hp1:p.1=r:=by rw [← hp]
      have hp2:p.2=c:=by rw [← hp]
      have cT:ql (h++[.tab s.kvs]) (.ref h.length)=some s.kvs:=by simp [ql]
      have uT:∀ cc,(h++[Cell.tab s.kvs]).set h.length cc=h++[cc]:=fun cc=>by simp
      have hmu:=hmul s w1
      have am:atM (row.map (MV.f∘FV.int)) (c:Int)=some (I (sh p)):=by rw [Yn,List.getElem?_map,ev]; rfl
      have ad:atM (line.map (MV.f∘FV.int)) (c:Int)=some (I (Zr ar n0 ns sh s p)):=by rw [Yn,List.getElem?_map,lc]; rfl
      have ae:=aR r row er
      have k6:s.kvs.length < 1000000:=by omega
      have ewk:Yc ar n0 ns sh s [p]=nxW ar n0 ns sh s p:=rfl
      simp only [ewk] at hQ
      generalize hH:h++[Cell.tab s.kvs]=HH at *
      simp [Zi,iS]
      rw [zM (e:=fun t=>MV.f (ye t)) (st:=fun z:Int×Option MV×Option MV×Option MV=>[some (.f rv),some (.f dv),some (.f av),some (.ref h.length),some (I s.odd),some (I (Ye ar)),some (I r),some (I c),some (I z.1),z.2.1,z.2.2.1,z.2.2.2]) (hp:=fun _=>HH) (f:=fun z t=>(z.1 + t.2.2 * zh s.kvs (p.1 - t.1,p.2 - t.2.1),some (I t.1),some (I t.2.1),some (I t.2.2))) ar (s.odd,z9,z10,z11)]
      · have fo:∀ (l:Aro) (z:Int×Option MV×Option MV×Option MV),(l.foldl (fun (z:Int×Option MV×Option MV×Option MV) (t:Int×Int×Int)=>(z.1 + t.2.2 * zh s.kvs (p.1 - t.1,p.2 - t.2.1),some (I t.1),some (I t.2.1),some (I t.2.2))) z).1=z.1 + zo s.kvs l p:=by
          intro l
          induction l with
          | nil=>intro z; simp [zo]
          | cons t l ih=>intro z; rw [List.foldl_cons,ih]; simp only [zo,List.map_cons,List.sum_cons]; omega
        have fo1:=fo ar (s.odd,z9,z10,z11)
        generalize ar.foldl (fun (z:Int×Option MV×Option MV×Option MV) (t:Int×Int×Int)=>(z.1 + t.2.2 * zh s.kvs (p.1 - t.1,p.2 - t.2.1),some (I t.1),some (I t.2.1),some (I t.2.2))) (s.odd,z9,z10,z11)=zz at *
        obtain ⟨zd,za,zb,zc⟩:=zz
        simp only at fo1
        subst fo1
        have g0:=zay (by omega) a w1 p
        have eg:Zp ar s p=(s.odd + zo s.kvs ar p) / Ye ar:=rfl
        rw [eg] at g0
        have od:(nxW ar n0 ns sh s p).odd=(s.odd + zo s.kvs ar p) - (s.odd + zo s.kvs ar p) / Ye ar * Ye ar:=by
          show (s.odd + zo s.kvs ar p) % Ye ar=_
          rw [Int.emod_def,Int.mul_comm]
        have ek:(nxW ar n0 ns sh s p).kvs=Yx s.kvs p (sh p + (s.odd + zo s.kvs ar p) / Ye ar - Zr ar n0 ns sh s p):=rfl
        rw [od,ek] at hQ
        generalize s.odd + zo s.kvs ar p=D at *
        have dvv:∀ hh,zf true .fdiv (I D) (I (Ye ar)) hh=.ok (I (D / Ye ar)) hh:=fun hh=>zg _ _ _ ⟨by omega,.inr (qv (by omega) (by omega))⟩
        have ml:∀ hh,zf true .mul (I (D / Ye ar)) (I (Ye ar)) hh=.ok (I (D / Ye ar * Ye ar)) hh:=fun hh=>yo _ _ _ (.inr (.inr ⟨qv (by omega) (by omega),qv (by omega) (by omega)⟩))
        have pr:Zs (.f (.tup [.int (r:Int),.int (c:Int)]))=some p:=by rw [← hp]; rfl
        generalize Zr ar n0 ns sh s p=ik at *
        simp [dvv,ml,qR,ae,qr,am,qD,aDr,ad,Zg,Qh,pr,cT,k6,uT]
        exact hQ _ _ ⟨_,_,_,_,_,rfl,rfl⟩
      · rintro t ht z
        have g1:zaq (.ref h.length) (.f (.tup [.int ((r:Int) - t.1),.int ((c:Int) - t.2.1)])) (I 0) HH=.ok (I (zh s.kvs (p.1 - t.1,p.2 - t.2.1))) HH:=by
          rw [hp1,hp2]
          simp only [zaq,cT,Zf,Zs,Yk,List.map_cons,List.map_nil,zh]
          cases zK s.kvs ((r:Int) - t.1,(c:Int) - t.2.1) <;> rfl
        have m1:=hmu t ht (p.1 - t.1,p.2 - t.2.1)
        simp [Zi,cT,Zg,Qh,g1,yo,m1]
    · rintro σ hh ⟨z7,z8,z9,z10,z11,rfl,rfl⟩
      simp
      exact hQ _ _ ⟨_,_,_,_,_,_,rfl,rfl⟩
  · rintro σ hh ⟨z6,z7,z8,z9,z10,z11,rfl,rfl⟩
    generalize Yc ar n0 ns sh ⟨[],0⟩ (Ya H W)=s at *
    have cT:ql (h++[.tab s.kvs]) (.ref h.length)=some s.kvs:=by simp [ql]
    have tr:=TrOk.app h [.dead]
    simp [Ybk,cT,qg,tr]
    exact hQ _ _ ⟨rfl,rfl⟩
end
end MP
end
section
set_option maxHeartbeats 4000000
namespace MP
open PySem
noncomputable def Qq (inks:List Int):List Int:=(List.range (inks.length - 1)).map fun k=>inks.getD (k + 1) 0 - inks.getD k 0
noncomputable def zL (H W:Nat) (p:Int×Int) (t:Int×Int×Int):Bool:=decide ((H:Int)≤p.1 + t.1) || !(decide (0≤p.2 + t.2.1)&&decide (p.2 + t.2.1 < W))
noncomputable def za2 (kvs:List ((Int×Int)×Int)) (ar:Aro) (H W:Nat):Int:=(kvs.map fun kv=>(ar.map fun t=>if zL H W kv.1 t then t.2.2 * zh kvs kv.1 else 0).sum).sum
section
variable (n:Nat) (h:MH)
theorem qbv (inks:List Int) (h2:2≤inks.length) (hl:inks.length≤1000):run prog (n + 1) "_law_half" [.f (Qa false inks)] h=.ok (I (YX (Qq inks) / 2)) h:=by
  have q:∀ hh,yb hh (.f (Qa false inks))=some (inks.map (MV.f∘FV.int)):=fun hh=>by simp [Qa]
  have ne:Qq inks≠[]:=by
    intro e
    have:=congrArg List.length e
    simp [Qq] at this
    omega
  have at1:∀ k:Nat,k < inks.length→atM (inks.map (MV.f∘FV.int)) (k:Int)=some (I (inks.getD k 0)):=fun k hk=>by
    rw [Yn,List.getElem?_map,List.getElem?_eq_getElem hk]; simp [List.getD,hk]
  have ln:Yv true "len" [.f (Qa false inks)] h=.ok (I (inks.length:Int)) h:=by simp [Qa]
  have q1:=yaG true h (.f (Qa false (Qq inks))) (Qq inks) (by simp [Qa]) ne
  have d2:∀ x hh,zf true .fdiv (I x) (I 2) hh=.ok (I (x / 2)) hh:=fun x hh=>zg _ _ _ ⟨by decide,.inl (by decide)⟩
  generalize hx:Qa false inks=xv at *
  rw [zap]
  simp only [d__law_half]
  have iR:=Qk h ((inks.length:Int) - 1) (by omega)
  have e0:((inks.length:Int) - 1).toNat=inks.length - 1:=by omega
  simp [ln,iR,MP.stM,e0]
  rw [yD (e:=fun k:Nat=>I k) (g:=fun k=>I (inks.getD (k + 1) 0 - inks.getD k 0)) (List.range (inks.length - 1)) [] none (by simp [yi]; omega) (fun k hk z=>⟨some (I k),by
    have hk':=List.mem_range.mp hk
    have b1:=at1 k (by omega)
    have b2:=at1 (k + 1) (by omega)
    rw [show ((k + 1:Nat):Int)=(k:Int) + 1 by omega] at b2
    simp [qq,q,b1,b2]⟩)]
  have e:((List.range (inks.length - 1)).map fun k=>I (inks.getD (k + 1) 0 - inks.getD k 0))=((Qq inks).map FV.int).map MV.f:=by simp [Qq]
  rw [List.nil_append,R.bind_ok,e,Zh]
  have e3:FV.lst ((Qq inks).map FV.int)=Qa false (Qq inks):=rfl
  rw [e3]
  generalize Qa false (Qq inks)=gv at *
  simp [q1,d2]
theorem qbu (most:Int) (rows:List (List Int)) (H W:Nat) (d:Drawn most rows H W) (h1:1≤H) (kvs:List ((Int×Int)×Int)) (ar:Aro) (mu:∀ t∈ar,∀ k,Zw t.2.2 (zh kvs k)) :
    run prog (n + 1) "_law_lost" [.f (Yd false false rows),.f (.tab kvs),.f (sq false (ar.map ye))] h=.ok (I (za2 kvs ar H W)) h:=by
  have qR:∀ hh,yb hh (.f (Yd false false rows))=some (rows.map (MV.f∘Qa false)):=fun hh=>by simp [Yd]
  have rl:=d.len
  obtain ⟨r0,er0,lr0⟩:∃ r,rows[0]?=some r∧r.length=W:=⟨_,List.getElem?_eq_getElem (by omega),d.wid _ (List.getElem_mem (by omega))⟩
  have aR0:atM (rows.map (MV.f∘Qa false)) 0=some (.f (Qa false r0)):=by
    have:=Yn (rows.map (MV.f∘Qa false)) 0
    change atM _ (0:Int)=_ at this
    rw [this,List.getElem?_map,er0]; rfl
  have qr:∀ hh,yb hh (.f (Qa false r0))=some (r0.map (MV.f∘FV.int)):=fun hh=>by simp [Qa]
  have iS:∀ hh,itV "seq" [.f (sq false (ar.map ye))] hh=some (ar.map fun t=>MV.f (ye t),[]):=fun hh=>by
    have q:=(yab hh false ar).q
    have ga:Zc hh (.f (sq false (ar.map ye)))=[]:=rfl
    simp [itV,q,ga]
  have iK:∀ hh,itV "keys" [.f (.tab kvs)] hh=some (kvs.map fun kv=>MV.f (Yl kv.1),[]):=fun hh=>rfl
  have cT:∀ hh,ql hh (.f (.tab kvs))=some kvs:=fun hh=>rfl
  generalize hrv:Yd false false rows=rv at *
  generalize hav:sq false (ar.map ye)=av at *
  suffices Ret (run prog (n + 1) "_law_lost" [.f rv,.f (.tab kvs),.f av] h) fun v h'=>v=I (za2 kvs ar H W)∧h'=h by
    obtain ⟨v,h',e,rfl,rfl⟩:=this
    exact e
  refine Ret.of fun Q hQ=>?_
  rw [Yam]
  simp only [d__law_lost]
  simp [iK]
  refine QU (e:=fun kv:(Int×Int)×Int=>MV.f (Yl kv.1)) (Q:=fun r=>Ret (Zd _ r) _) kvs (fun i σ hh=>∃ z4 z5 z6 z7 z8:Option MV,hh=h∧σ=[some (.f rv),some (.f (.tab kvs)),some (.f av),some (I ((kvs.take i).map fun kv=>(ar.map fun t=>if zL H W kv.1 t then t.2.2 * zh kvs kv.1 else 0).sum).sum),z4,z5,z6,z7,z8]) ?_ ?_ ?_
  · exact ⟨none,none,none,none,none,rfl,by simp⟩
  · rintro i kv σ hh hi ⟨z4,z5,z6,z7,z8,rfl,rfl⟩ Q hQ
    have tk:kvs.take (i + 1)=kvs.take i++[kv]:=by rw [List.take_succ,hi]; rfl
    simp only [tk,List.map_append,List.sum_append,List.map_cons,List.map_nil,List.sum_cons,List.sum_nil,Int.add_zero] at hQ
    generalize ((kvs.take i).map fun kv=>(ar.map fun t=>if zL H W kv.1 t then t.2.2 * zh kvs kv.1 else 0).sum).sum=acc at *
    obtain ⟨v,ev⟩:∃ v,zK kvs kv.1=some v:=by
      unfold zK
      cases e:kvs.find? fun p=>decide (p.1=kv.1) with
      | none =>
        have:=List.find?_eq_none.mp e kv (List.mem_of_getElem? hi)
        simp at this
      | some q=>exact ⟨_,rfl⟩
    have ez:zh kvs kv.1=v:=by simp [zh,ev]
    rw [ez] at hQ
    have mu':∀ t∈ar,Zw t.2.2 v:=fun t ht=>by have:=mu t ht kv.1; rwa [ez] at this
    obtain ⟨⟨pr,pc⟩,vv⟩:=kv
    have ev':zK kvs (pr,pc)=some v:=ev
    have pp:Zs (.f (.tup [.int pr,.int pc]))=some (pr,pc):=rfl
    simp [Zi,iS]
    refine QU (e:=fun t=>MV.f (ye t)) (Q:=fun r=>Nx r _) ar (fun j σ hh'=>∃ z6 z7 z8:Option MV,hh'=hh∧σ=[some (.f rv),some (.f (.tab kvs)),some (.f av),some (I (acc + ((ar.take j).map fun t=>if zL H W (pr,pc) t then t.2.2 * v else 0).sum)),some (I pr),some (I pc),z6,z7,z8]) ?_ ?_ ?_
    · exact ⟨z6,z7,z8,rfl,by simp⟩
    · rintro j t σ hh' hj ⟨z6,z7,z8,rfl,rfl⟩ Q hQ
      have tk:ar.take (j + 1)=ar.take j++[t]:=by rw [List.take_succ,hj]; rfl
      simp only [tk,List.map_append,List.sum_append,List.map_cons,List.map_nil,List.sum_cons,List.sum_nil,Int.add_zero] at hQ
      generalize ((ar.take j).map fun t=>if zL H W (pr,pc) t then t.2.2 * v else 0).sum=ac2 at *
      have m1:=mu' t (List.mem_of_getElem? hj)
      have bm:∀ hh,zf true .mul (I t.2.2) (I v) hh=.ok (I (t.2.2 * v)) hh:=fun hh=>yo _ _ _ m1
      by_cases c1:(H:Int)≤pr + t.1
      · have co:zL H W (pr,pc) t=true:=by simp [zL,c1]
        simp only [co,if_true,← Int.add_assoc] at hQ
        simp [Zi,qR,rl,c1,cT,ev',bm,Zg,Qh,pp]
        exact hQ _ _ ⟨_,_,_,rfl,rfl⟩
      · by_cases c2:0≤pc + t.2.1
        · by_cases c3:pc + t.2.1 < W
          · have co:zL H W (pr,pc) t=false:=by simp [zL,c1,c2,c3]
            simp only [co,Bool.false_eq_true,if_false,Int.add_zero] at hQ
            simp [Zi,qR,rl,c1,aR0,qr,lr0,c2,c3]
            exact hQ _ _ ⟨_,_,_,rfl,rfl⟩
          · have co:zL H W (pr,pc) t=true:=by simp [zL,c1,c2,c3]
            simp only [co,if_true,← Int.add_assoc] at hQ
            simp [Zi,qR,rl,c1,aR0,qr,lr0,c2,c3,cT,ev',bm,Zg,Qh,pp]
            exact hQ _ _ ⟨_,_,_,rfl,rfl⟩
        · have co:zL H W (pr,pc) t=true:=by simp [zL,c1,c2]
          simp only [co,if_true,← Int.add_assoc] at hQ
          simp [Zi,qR,rl,c1,c2,cT,ev',bm,Zg,Qh,pp]
          exact hQ _ _ ⟨_,_,_,rfl,rfl⟩
    · rintro σ hh' ⟨z6,z7,z8,rfl,rfl⟩
      rw [List.take_length]
      simp
      exact hQ _ _ ⟨_,_,_,_,_,rfl,rfl⟩
  · rintro σ hh ⟨z4,z5,z6,z7,z8,rfl,rfl⟩
    rw [List.take_length]
    simp
    exact hQ _ _ ⟨rfl,rfl⟩
end
end MP
end
section
set_option maxHeartbeats 2000000
namespace MP
open PySem
theorem zaH (kvs:List ((Int×Int)×Int)) (p q:Int×Int) (v:Int) (hp:p∉kvs.map Prod.fst):zh (Yx kvs p v) q=if q=p then v else zh kvs q:=by
  have hn:(kvs.any fun x=>decide (x.1=p))=false:=by
    rw [List.any_eq_false]
    intro x hx
    simp
    exact fun e=>hp (List.mem_map.mpr ⟨x,hx,e⟩)
  unfold Yx
  rw [if_neg (by simp [hn])]
  unfold zh zK
  rw [List.find?_append]
  by_cases h:q=p
  · subst h
    have:(kvs.find? fun x=>decide (x.1=q))=none:=by
      rw [List.find?_eq_none]
      intro x hx
      simp
      exact fun e=>hp (List.mem_map.mpr ⟨x,hx,e⟩)
    rw [this]
    simp
  · rw [if_neg h]
    cases e:kvs.find? fun x=>decide (x.1=q) with
    | none=>simp [Ne.symm h]
    | some x=>simp
theorem QM (kvs:List ((Int×Int)×Int)) (p:Int×Int) (v:Int) (hp:p∉kvs.map Prod.fst):(Yx kvs p v).map Prod.fst=kvs.map Prod.fst++[p]:=by
  have hn:(kvs.any fun x=>decide (x.1=p))=false:=by
    rw [List.any_eq_false]
    intro x hx
    simp
    exact fun e=>hp (List.mem_map.mpr ⟨x,hx,e⟩)
  unfold Yx
  rw [if_neg (by simp [hn])]
  simp
theorem yP (ar:Aro) (n0:Int) (ns:List Int) (sh:Int×Int→Int):∀ (ps:List (Int×Int)) (s:WS),(s.kvs.map Prod.fst++ps).Nodup→(Yc ar n0 ns sh s ps).kvs.map Prod.fst=s.kvs.map Prod.fst++ps
  | [],s,_=>by simp [Yc]
  | p::ps,s,h=>by
    have hp:p∉s.kvs.map Prod.fst:=fun z=>by
      have:=(List.nodup_append.mp h).2.2 p z p (by simp)
      exact this rfl
    have e:=QM s.kvs p (sh p + Zp ar s p - Zr ar n0 ns sh s p) hp
    have ih:=yP ar n0 ns sh ps (nxW ar n0 ns sh s p) (by
      show ((Yx s.kvs p _).map Prod.fst++ps).Nodup
      rw [e]; simpa using h)
    show (Yc ar n0 ns sh (nxW ar n0 ns sh s p) ps).kvs.map Prod.fst=_
    rw [ih]
    show (Yx s.kvs p _).map Prod.fst++ps=_
    rw [e]; simp
theorem YZ (ar:Aro) (n0:Int) (ns:List Int) (sh:Int×Int→Int):∀ (ps:List (Int×Int)) (s:WS) (q:Int×Int),(s.kvs.map Prod.fst++ps).Nodup→q∉ps→zh (Yc ar n0 ns sh s ps).kvs q=zh s.kvs q
  | [],s,q,_,_=>by simp [Yc]
  | p::ps,s,q,h,hq=>by
    have hp:p∉s.kvs.map Prod.fst:=fun z=>by
      have:=(List.nodup_append.mp h).2.2 p z p (by simp)
      exact this rfl
    have e:=QM s.kvs p (sh p + Zp ar s p - Zr ar n0 ns sh s p) hp
    have ih:=YZ ar n0 ns sh ps (nxW ar n0 ns sh s p) q (by
      show ((Yx s.kvs p _).map Prod.fst++ps).Nodup
      rw [e]; simpa using h) (by simp at hq; exact hq.2)
    show zh (Yc ar n0 ns sh (nxW ar n0 ns sh s p) ps).kvs q=_
    rw [ih]
    show zh (Yx s.kvs p _) q=_
    rw [zaH _ _ _ _ hp,if_neg (by simp at hq; exact hq.1)]
theorem ybp {kvs:List ((Int×Int)×Int)} {q:Int×Int} (h:q∉kvs.map Prod.fst):zh kvs q=0:=by
  unfold zh zK
  have:(kvs.find? fun x=>decide (x.1=q))=none:=by
    rw [List.find?_eq_none]
    intro x hx
    simp
    exact fun e=>h (List.mem_map.mpr ⟨x,hx,e⟩)
  rw [this]; rfl
end MP
end
section
set_option maxHeartbeats 2000000
namespace MP
open PySem
section
variable (ar:Aro) (n0:Int) (ns:List Int) (sh:Int×Int→Int)
noncomputable def yQ:WS→List (Int×Int)→List Int
  | _,[]=>[]
  | s,p::ps=>(sh p + Zp ar s p - Zr ar n0 ns sh s p)::yQ (nxW ar n0 ns sh s p) ps
noncomputable def qae:WS→List (Int×Int)→List Int
  | _,[]=>[]
  | s,p::ps=>zo s.kvs ar p::qae (nxW ar n0 ns sh s p) ps
theorem yat (t0:0 < Ye ar):∀ (ps:List (Int×Int)) (s:WS),Ye ar * ((ps.map sh).sum - (zq ar n0 ns sh s ps).sum)=Ye ar * (yQ ar n0 ns sh s ps).sum - (qae ar n0 ns sh s ps).sum + (Yc ar n0 ns sh s ps).odd - s.odd
  | [],s=>by simp [zq,yQ,qae,Yc]
  | p::ps,s=>by
    have ih:=yat t0 ps (nxW ar n0 ns sh s p)
    have e1:Yc ar n0 ns sh s (p::ps)=Yc ar n0 ns sh (nxW ar n0 ns sh s p) ps:=rfl
    have e2:Ye ar * Zp ar s p=s.odd + zo s.kvs ar p - (nxW ar n0 ns sh s p).odd:=by
      show Ye ar * ((s.odd + zo s.kvs ar p) / Ye ar)=s.odd + zo s.kvs ar p - (s.odd + zo s.kvs ar p) % Ye ar
      have:=Int.mul_ediv_add_emod (s.odd + zo s.kvs ar p) (Ye ar)
      omega
    simp only [List.map_cons,List.sum_cons,zq,yQ,qae,e1]
    generalize (Yc ar n0 ns sh (nxW ar n0 ns sh s p) ps).odd=wo at *
    generalize (nxW ar n0 ns sh s p).odd=no at *
    generalize (zq ar n0 ns sh (nxW ar n0 ns sh s p) ps).sum=os at *
    generalize (yQ ar n0 ns sh (nxW ar n0 ns sh s p) ps).sum=ls at *
    generalize (qae ar n0 ns sh (nxW ar n0 ns sh s p) ps).sum=ds at *
    generalize (ps.map sh).sum=ss at *
    generalize Zr ar n0 ns sh s p=ik at *
    generalize Zp ar s p=gt at *
    have x1:Ye ar * (sh p + ss - (ik + os))=Ye ar * (sh p - ik) + Ye ar * (ss - os):=by rw [← Int.mul_add]; congr 1; omega
    have x2:Ye ar * (sh p + gt - ik + ls)=Ye ar * (sh p - ik) + Ye ar * gt + Ye ar * ls:=by rw [← Int.mul_add,← Int.mul_add]; congr 1; omega
    rw [x1,x2,ih,e2]
    omega
theorem Zar:∀ (ps:List (Int×Int)) (s:WS),(s.kvs.map Prod.fst++ps).Nodup→yQ ar n0 ns sh s ps=ps.map (zh (Yc ar n0 ns sh s ps).kvs)
  | [],s,_=>rfl
  | p::ps,s,h=>by
    have hp:p∉s.kvs.map Prod.fst:=fun z=>by
      have:=(List.nodup_append.mp h).2.2 p z p (by simp)
      exact this rfl
    have e:=QM s.kvs p (sh p + Zp ar s p - Zr ar n0 ns sh s p) hp
    have h':((nxW ar n0 ns sh s p).kvs.map Prod.fst++ps).Nodup:=by
      show ((Yx s.kvs p _).map Prod.fst++ps).Nodup
      rw [e]; simpa using h
    have hps:p∉ps:=by
      have:=(List.nodup_append.mp h).2.1
      exact (List.nodup_cons.mp this).1
    show _::yQ ar n0 ns sh (nxW ar n0 ns sh s p) ps=zh (Yc ar n0 ns sh (nxW ar n0 ns sh s p) ps).kvs p::ps.map (zh (Yc ar n0 ns sh (nxW ar n0 ns sh s p) ps).kvs)
    rw [Zar ps _ h',YZ ar n0 ns sh ps _ p h' hps]
    congr 1
    show _=zh (Yx s.kvs p _) p
    rw [zaH _ _ _ _ hp,if_pos rfl]
noncomputable def ybg (L:Int×Int→Int) (p:Int×Int):Int:=(ar.map fun t=>t.2.2 * L (p.1 - t.1,p.2 - t.2.1)).sum
theorem YaO (L:Int×Int→Int):∀ (ps:List (Int×Int)) (s:WS),(s.kvs.map Prod.fst++ps).Nodup→(∀ q,L q=zh (Yc ar n0 ns sh s ps).kvs q) →
    (∀ (i:Nat) p,ps[i]?=some p→∀ t∈ar,(p.1 - t.1,p.2 - t.2.1)∉ps.drop i)→qae ar n0 ns sh s ps=ps.map (ybg ar L)
  | [],s,_,_,_=>rfl
  | p::ps,s,h,hL,hb=>by
    have hp:p∉s.kvs.map Prod.fst:=fun z=>by
      have:=(List.nodup_append.mp h).2.2 p z p (by simp)
      exact this rfl
    have e:=QM s.kvs p (sh p + Zp ar s p - Zr ar n0 ns sh s p) hp
    have h':((nxW ar n0 ns sh s p).kvs.map Prod.fst++ps).Nodup:=by
      show ((Yx s.kvs p _).map Prod.fst++ps).Nodup
      rw [e]; simpa using h
    show zo s.kvs ar p::qae ar n0 ns sh (nxW ar n0 ns sh s p) ps=ybg ar L p::ps.map (ybg ar L)
    rw [YaO L ps _ h' hL fun i q hq t ht=>by
      have:=hb (i + 1) q (by simpa using hq) t ht
      simpa using this]
    congr 1
    unfold zo ybg
    congr 1
    apply List.map_congr_left
    intro t ht
    have:=hb 0 p rfl t ht
    rw [List.drop_zero] at this
    rw [hL,YZ ar n0 ns sh (p::ps) s _ h this]
end
end MP
end
section
set_option maxHeartbeats 2000000
namespace MP
open PySem
theorem Ya4 {α:Type} (f g:α→Int):∀ l:List α,(l.map fun x=>f x + g x).sum=(l.map f).sum + (l.map g).sum
  | []=>by simp
  | x::l=>by simp only [List.map_cons,List.sum_cons,Ya4 f g l]; omega
theorem zav {α:Type} (f g:α→Int):∀ l:List α,(l.map fun x=>f x - g x).sum=(l.map f).sum - (l.map g).sum
  | []=>by simp
  | x::l=>by simp only [List.map_cons,List.sum_cons,zav f g l]; omega
theorem zW {α:Type} (c:Int) (f:α→Int):∀ l:List α,(l.map fun x=>c * f x).sum=c * (l.map f).sum
  | []=>by simp
  | x::l=>by simp only [List.map_cons,List.sum_cons,zW c f l,Int.mul_add]
theorem yaN {α:Type}:∀ l:List α,(l.map fun _=>(0:Int)).sum=0
  | []=>rfl
  | x::l=>by simp only [List.map_cons,List.sum_cons,yaN l]; omega
theorem yV {α β:Type} (F:α→β→Int) (qs:List β):∀ ps:List α,(ps.map fun p=>(qs.map fun q=>F p q).sum).sum=(qs.map fun q=>(ps.map fun p=>F p q).sum).sum
  | []=>by simp [yaN]
  | p::ps=>by
    simp only [List.map_cons,List.sum_cons,yV F qs ps]
    rw [Ya4]
theorem YaX {α:Type} [DecidableEq α] (x:α) (v:α→Int):∀ ps:List α,ps.Nodup→(ps.map fun q=>if q=x then v q else 0).sum=if x∈ps then v x else 0
  | [],_=>by simp
  | p::ps,h=>by
    have ⟨h1,h2⟩:=List.nodup_cons.mp h
    simp only [List.map_cons,List.sum_cons,YaX x v ps h2]
    by_cases e:p=x
    · subst e; simp [h1]
    · simp [e,Ne.symm e]
theorem Ya7 (L:Int×Int→Int) (ps:List (Int×Int)) (nd:ps.Nodup) (z:∀ q,q∉ps→L q=0) (a b:Int):(ps.map fun p=>L (p.1 - a,p.2 - b)).sum=(ps.map fun q=>if (q.1 + a,q.2 + b)∈ps then L q else 0).sum:=by
  have e1:∀ p:Int×Int,L (p.1 - a,p.2 - b)=(ps.map fun q=>if q=(p.1 - a,p.2 - b) then L q else 0).sum:=fun p=>by
    rw [YaX _ L ps nd]
    split
    · rfl
    · next h=>exact z _ h
  have e2:∀ q:Int×Int,(if (q.1 + a,q.2 + b)∈ps then L q else 0)=(ps.map fun p=>if p=(q.1 + a,q.2 + b) then L q else 0).sum:=fun q=>by
    rw [YaX (q.1 + a,q.2 + b) (fun _=>L q) ps nd]
    by_cases h:(q.1 + a,q.2 + b)∈ps <;> simp [h]
  simp only [e1,e2]
  rw [yV]
  congr 1
  apply List.map_congr_left
  intro q _
  congr 1
  apply List.map_congr_left
  intro p _
  have:(q=(p.1 - a,p.2 - b))↔(p=(q.1 + a,q.2 + b)):=by
    constructor
    · rintro rfl; ext <;> simp
    · rintro rfl; ext <;> simp
  simp only [this]
theorem ZaZ {H W:Nat} {p:Int×Int}:p∈Ya H W↔0≤p.1∧p.1 < H∧0≤p.2∧p.2 < W:=by
  refine ⟨Qp,fun h=>?_⟩
  unfold Ya Qj
  refine List.mem_map.mpr ⟨(p.1.toNat,p.2.toNat),List.mem_flatMap.mpr ⟨p.1.toNat,List.mem_range.mpr (by omega),List.mem_map.mpr ⟨p.2.toNat,List.mem_range.mpr (by omega),rfl⟩⟩,?_⟩
  ext <;> simp <;> omega
theorem QS {r c:Nat} {p:Int×Int} (h:p∈zr r c):p.1=r∧0≤p.2∧p.2 < c:=by
  obtain ⟨x,hx,rfl⟩:=List.mem_map.mp h
  have:=List.mem_range.mp hx
  simp; omega
theorem Yah (r:Nat):∀ c,(zr r c).Nodup
  | 0=>by simp [zr]
  | c + 1=>by
    rw [ZL,List.nodup_append]
    refine ⟨Yah r c,by simp,fun a ha b hb=>?_⟩
    simp at hb; subst hb
    have:=QS ha
    intro e; subst e; simp at this
theorem yE:∀ H W,(Ya H W).Nodup
  | 0,W=>by simp [Ya,Qj]
  | H + 1,W=>by
    rw [yp,List.nodup_append]
    refine ⟨yE H W,Yah H W,fun a ha b hb e=>?_⟩
    subst e
    have h1:=Qp ha
    have h2:=QS hb
    omega
noncomputable def Qbj (p q:Int×Int):Prop:=p.1 < q.1∨(p.1=q.1∧p.2 < q.2)
theorem YaQ (r:Nat):∀ c,(zr r c).Pairwise Qbj
  | 0=>by simp [zr]
  | c + 1=>by
    rw [ZL,List.pairwise_append]
    refine ⟨YaQ r c,by simp,fun a ha b hb=>?_⟩
    simp at hb; subst hb
    have:=QS ha
    exact .inr ⟨by simp; omega,by simp; omega⟩
theorem Yae:∀ H W,(Ya H W).Pairwise Qbj
  | 0,W=>by simp [Ya,Qj]
  | H + 1,W=>by
    rw [yp,List.pairwise_append]
    refine ⟨Yae H W,YaQ H W,fun a ha b hb=>?_⟩
    have h1:=Qp ha
    have h2:=QS hb
    exact .inl (by omega)
theorem QaY {ps:List (Int×Int)} (lx:ps.Pairwise Qbj) {i:Nat} {p:Int×Int} (hp:ps[i]?=some p) {t:Int×Int×Int} (b:¬ (t.1 < 0∨(t.1=0∧t.2.1 < 1))):(p.1 - t.1,p.2 - t.2.1)∉ps.drop i:=by
  intro h
  have hl:=(List.getElem?_eq_some_iff.mp hp).1
  have e:ps.drop i=p::ps.drop (i + 1):=by
    rw [List.drop_eq_getElem_cons hl]
    congr 1
    exact Option.some.inj ((List.getElem?_eq_getElem hl).symm.trans hp)
  have lx2:(ps.drop i).Pairwise Qbj:=lx.sublist (List.drop_sublist _ _)
  rw [e] at h lx2
  rcases List.mem_cons.mp h with h | h
  · have h1:=congrArg Prod.fst h
    have h2:=congrArg Prod.snd h
    simp at h1 h2
    omega
  · have:=(List.pairwise_cons.mp lx2).1 _ h
    unfold Qbj at this
    simp at this
    omega
theorem qbi (ar:Aro) (n0:Int) (ns:List Int) (sh:Int×Int→Int) (H W:Nat) (t0:0 < Ye ar) (bh:∀ t∈ar,¬ (t.1 < 0∨(t.1=0∧t.2.1 < 1))) :
    Ye ar * (((Ya H W).map sh).sum - (zq ar n0 ns sh ⟨[],0⟩ (Ya H W)).sum)=(Yc ar n0 ns sh ⟨[],0⟩ (Ya H W)).odd +
      ((Ya H W).map fun q=>(ar.map fun t=>if (q.1 + t.1,q.2 + t.2.1)∈Ya H W then 0 else t.2.2 * zh (Yc ar n0 ns sh ⟨[],0⟩ (Ya H W)).kvs q).sum).sum:=by
  have nd:=yE H W
  have nd':(([]:List ((Int×Int)×Int)).map Prod.fst++Ya H W).Nodup:=by simpa using nd
  have lx:=Yae H W
  have cw:=yat ar n0 ns sh t0 (Ya H W) ⟨[],0⟩
  have ks:=yP ar n0 ns sh (Ya H W) ⟨[],0⟩ nd'
  rw [Zar ar n0 ns sh (Ya H W) ⟨[],0⟩ nd',YaO ar n0 ns sh (zh (Yc ar n0 ns sh ⟨[],0⟩ (Ya H W)).kvs) (Ya H W) ⟨[],0⟩ nd' (fun _=>rfl) (fun i p hp t ht=>QaY lx hp (bh t ht))] at cw
  have z:∀ q,q∉Ya H W→zh (Yc ar n0 ns sh ⟨[],0⟩ (Ya H W)).kvs q=0:=fun q hq=>ybp (by rw [ks]; simpa using hq)
  generalize zh (Yc ar n0 ns sh ⟨[],0⟩ (Ya H W)).kvs=L at *
  generalize Ya H W=ps at *
  have e1:(ps.map (ybg ar L)).sum=(ps.map fun q=>(ar.map fun t=>if (q.1 + t.1,q.2 + t.2.1)∈ps then t.2.2 * L q else 0).sum).sum:=by
    unfold ybg
    rw [yV (fun p t=>t.2.2 * L (p.1 - t.1,p.2 - t.2.1)) ar ps,yV (fun q t=>if (q.1 + t.1,q.2 + t.2.1)∈ps then t.2.2 * L q else 0) ar ps]
    congr 1
    apply List.map_congr_left
    intro t _
    rw [zW,Ya7 L ps nd z,← zW]
    congr 1
    apply List.map_congr_left
    intro q _
    by_cases h:(q.1 + t.1,q.2 + t.2.1)∈ps <;> simp [h]
  have e2:Ye ar * (ps.map L).sum=(ps.map fun q=>(ar.map fun t=>t.2.2 * L q).sum).sum:=by
    rw [← zW]
    congr 1
    apply List.map_congr_left
    intro q _
    have:(ar.map fun t=>t.2.2 * L q)=ar.map fun t=>L q * t.2.2:=by
      apply List.map_congr_left
      intro t _
      exact Int.mul_comm _ _
    rw [this,zW,Int.mul_comm]
    rfl
  rw [e1,e2] at cw
  rw [cw]
  have e3:(ps.map fun q=>(ar.map fun t=>if (q.1 + t.1,q.2 + t.2.1)∈ps then 0 else t.2.2 * L q).sum).sum=(ps.map fun q=>(ar.map fun t=>t.2.2 * L q).sum).sum - (ps.map fun q=>(ar.map fun t=>if (q.1 + t.1,q.2 + t.2.1)∈ps then t.2.2 * L q else 0).sum).sum:=by
    rw [← zav]
    congr 1
    apply List.map_congr_left
    intro q _
    rw [← zav]
    congr 1
    apply List.map_congr_left
    intro t _
    by_cases h:(q.1 + t.1,q.2 + t.2.1)∈ps <;> simp [h]
  rw [e3]
  simp only
  omega
end MP
end
section
set_option maxHeartbeats 2000000
namespace MP
open PySem
theorem yaj (inks:List Int) (w:Int) (h0:inks.getD 0 0≤w):∀ n,n + 1≤inks.length→w≤inks.getD n 0→(∃ k,k + 1≤n∧inks.getD k 0≤w∧w≤inks.getD (k + 1) 0)∨w=inks.getD 0 0
  | 0,_,h=>.inr (by omega)
  | n + 1,hn,h=>by
    by_cases c:inks.getD n 0≤w
    · exact .inl ⟨n,by omega,c,h⟩
    · rcases yaj inks w h0 n (by omega) (by omega) with ⟨k,h1,h2,h3⟩ | e
      · exact .inl ⟨k,by omega,h2,h3⟩
      · exact .inr e
theorem WOk.nextH {hf:Int} {ar:Aro} {s:WS} {n0:Int} {ns:List Int} {sh:Int×Int→Int} {p:Int×Int} {most:Int} (hm:0≤hf) (a:AOk ar) (w:WOk hf ar s) (z:(0:Int)∈n0::ns) (m:most∈n0::ns) (f0:(n0::ns).getD 0 0=0) (fm:(n0::ns).getD ((n0::ns).length - 1) 0=most)
    (gp:∀ k,k + 1 < (n0::ns).length→(n0::ns).getD (k + 1) 0 - (n0::ns).getD k 0≤2 * hf + 1) (hs:0≤sh p∧sh p≤most):WOk hf ar (nxW ar n0 ns sh s p):=by
  have g:=zay hm a w p
  refine ⟨fun kv h=>?_,Int.emod_nonneg _ (by have:=a.t; omega),Int.emod_lt_of_pos _ (by have:=a.t; omega)⟩
  rcases ZaP h with h | h
  · exact w.l kv h
  · rw [h]
    have bl:=fun x hx=>zV (sh p + Zp ar s p) ns n0 x hx
    have b0:=bl 0 z
    have b1:=bl most m
    unfold Zr
    generalize hw:sh p + Zp ar s p=want at *
    by_cases c:0≤want∧want≤most
    · rcases yaj (n0::ns) want (by omega) ((n0::ns).length - 1) (by simp) (by omega) with ⟨k,k1,k2,k3⟩ | e
      · have i1:(n0::ns).getD k 0∈n0::ns:=by
          have hk:k < (n0::ns).length:=by omega
          rw [List.getD_eq_getElem?_getD,List.getElem?_eq_getElem hk]
          exact List.getElem_mem hk
        have i2:(n0::ns).getD (k + 1) 0∈n0::ns:=by
          have hk:k + 1 < (n0::ns).length:=by omega
          rw [List.getD_eq_getElem?_getD,List.getElem?_eq_getElem hk]
          exact List.getElem_mem hk
        have c1:=bl _ i1
        have c2:=bl _ i2
        have c3:=gp k (by omega)
        generalize (n0::ns).getD k 0=x at *
        generalize (n0::ns).getD (k + 1) 0=y at *
        generalize Zm want n0 ns=q at *
        unfold apI at c1 c2
        split at c1 <;> split at c1 <;> split at c2 <;> omega
      · generalize Zm want n0 ns=q at *
        unfold apI at b0
        split at b0 <;> split at b0 <;> omega
    · generalize Zm want n0 ns=q at *
      unfold apI at b0 b1
      split at b0 <;> split at b0 <;> split at b1 <;> omega
end MP
end
section
set_option maxHeartbeats 2000000
namespace MP
open PySem
theorem Zad:∀ ls:List (List Int),ls.flatten.sum=(ls.map List.sum).sum
  | []=>rfl
  | l::ls=>by simp [Zad ls]
theorem YaN (ar:Aro) (n0:Int) (ns:List Int) (sh:Int×Int→Int) (W:Nat):∀ H,zq ar n0 ns sh ⟨[],0⟩ (Ya H W)=(Ql ar n0 ns sh W H).flatten
  | 0=>by simp [Ya,Qj,zq,Ql]
  | H + 1=>by
    rw [yp,YT,YaN ar n0 ns sh W H,qag]
    simp [yO]
theorem QbR (rows:List (List Int)) (r:Nat) (row:List Int) (e:rows[r]?=some row):(zr r row.length).map (shF rows)=row:=by
  apply List.ext_getElem?
  intro i
  simp only [zr,List.map_map,List.getElem?_map]
  by_cases hi:i < row.length
  · rw [List.getElem?_range hi,List.getElem?_eq_getElem hi]
    simp [shF,List.getD,e,hi]
  · rw [List.getElem?_eq_none (by simpa using hi),List.getElem?_eq_none (by omega)]; rfl
theorem qa3 {most:Int} {rows:List (List Int)} {H W:Nat} (d:Drawn most rows H W):∀ k,k≤H→(Ya k W).map (shF rows)=(rows.take k).flatten
  | 0,_=>by simp [Ya,Qj]
  | k + 1,hk=>by
    have hl:k < rows.length:=by rw [d.len]; omega
    have e:rows[k]?=some rows[k]:=List.getElem?_eq_getElem hl
    have w:(rows[k]).length=W:=d.wid _ (List.getElem_mem hl)
    have r:=QbR rows k rows[k] e
    rw [w] at r
    have tk:rows.take (k + 1)=rows.take k++[rows[k]]:=by rw [List.take_succ,e]; rfl
    rw [yp,List.map_append,qa3 d k (by omega),r,tk,List.flatten_append]
    simp
theorem qaR {most:Int} {rows:List (List Int)} {H W:Nat} (d:Drawn most rows H W):((Ya H W).map (shF rows)).sum=(rows.map List.sum).sum:=by
  rw [qa3 d H (Nat.le_refl _),List.take_of_length_le (by rw [d.len]; exact Nat.le_refl _),Zad]
theorem zQ {M:Int}:∀ (l:List Int),(∀ x∈l,0≤x∧x≤M)→0≤l.sum∧l.sum≤l.length * M
  | [],_=>by simp
  | x::l,h=>by
    have:=zQ l fun y hy=>h y (by simp [hy])
    have:=h x (by simp)
    simp only [List.sum_cons,List.length_cons]
    have e:((l.length + 1:Nat):Int) * M=l.length * M + M:=by
      rw [show ((l.length + 1:Nat):Int)=(l.length:Int) + 1 by omega,Int.add_mul]; omega
    omega
theorem QaH (ar:Aro) (n0:Int) (ns:List Int) (sh:Int×Int→Int):∀ (ps:List (Int×Int)) (s:WS),∀ x∈zq ar n0 ns sh s ps,x∈n0::ns
  | [],s,x,hx=>by simp [zq] at hx
  | p::ps,s,x,hx=>by
    rcases List.mem_cons.mp hx with rfl | hx
    · exact Q1 _ _ _
    · exact QaH ar n0 ns sh ps _ x hx
end MP
end
section
set_option maxHeartbeats 4000000
namespace MP
open PySem
theorem WOk.walkH {hf:Int} {ar:Aro} {n0:Int} {ns:List Int} {sh:Int×Int→Int} {most:Int} (hm:0≤hf) (a:AOk ar) (z:(0:Int)∈n0::ns) (m:most∈n0::ns) (f0:(n0::ns).getD 0 0=0) (fm:(n0::ns).getD ((n0::ns).length - 1) 0=most)
    (gp:∀ k,k + 1 < (n0::ns).length→(n0::ns).getD (k + 1) 0 - (n0::ns).getD k 0≤2 * hf + 1):∀ (ps:List (Int×Int)) (s:WS),WOk hf ar s→(∀ p∈ps,0≤sh p∧sh p≤most)→WOk hf ar (Yc ar n0 ns sh s ps)
  | [],s,w,_=>w
  | p::ps,s,w,h=>WOk.walkH hm a z m f0 fm gp ps _ (w.nextH hm a z m f0 fm gp (h p (by simp))) fun q hq=>h q (by simp [hq])
theorem Qak {most:Int} {inks:List Int} (K:Inks most inks):inks.getD 0 0=0:=by
  cases inks with
  | nil=>rfl
  | cons x r =>
    have h1:=K.inn x (by simp)
    have h2:=List.pairwise_cons.mp K.up
    rcases List.mem_cons.mp K.z with h | h
    · simp [← h]
    · have:=h2.1 0 h; simp; omega
theorem yas {most:Int}:∀ {inks:List Int},inks.Pairwise (· < ·)→(∀ v∈inks,v≤most)→most∈inks→inks.getD (inks.length - 1) 0=most
  | [x],_,_,h=>by simp at h; simp [h]
  | x::y::r,up,le,h=>by
    have h2:=List.pairwise_cons.mp up
    have hm:most∈y::r:=by
      rcases List.mem_cons.mp h with h | h
      · have:=h2.1 y (by simp); have:=le y (by simp); omega
      · exact h
    have:=yas h2.2 (fun v hv=>le v (by simp [hv])) hm
    simpa using this
theorem run_law (n:Nat) (ns:List Int) (hl:ns.length≤63):run prog (n + 7) "law" [.f (.scr ns)] [.code]=.ok (B true) [.code]:=by
  suffices Ret (run prog (n + 7) "law" [.f (.scr ns)] [.code]) fun v h'=>v=B true∧h'=[.code] by
    obtain ⟨v,h',e,rfl,rfl⟩:=this
    exact e
  refine Ret.of fun Q hQ=>?_
  obtain ⟨v,h',PC,most,rows,inks,k1,H,W,m1,m2,h1,h2,w1,w2,hw,d,K,il,kk1,kk2,rfl,rfl⟩:=yah (n + 2) [] ns 0 (by omega) (by omega)
  obtain ⟨n0,is,rfl⟩:∃ n0 is,inks=n0::is:=by
    cases inks with
    | nil=>exact absurd K.z (by simp)
    | cons a b=>exact ⟨a,b,rfl⟩
  obtain ⟨v,h',AR,ar,k2,a,bh,kk3,kk4,rfl,rfl⟩:=YaV (n + 3) [] ns k1 (by omega) (by omega)
  have g:Good most rows:=d.good m1 h1 (by omega) w1
  have MK:=YE (n + 4) (.code::atC k2::[]) most false false rows g
  have SP:=QaR n (atC k2::[]) most rows H W d m1 m2 h1 h2 w1 w2 hw false false ar a bh n0 is K
  have DM:=qbg ar n0 is (shF rows) H W
  have ez:Zl H W=List.replicate H (List.replicate W 0):=rfl
  rw [ez,DM] at SP
  have il2:2≤(n0::is).length:=by
    rcases is with _ | ⟨b,r⟩
    · have z:=K.z; have m:=K.m
      simp at z m; omega
    · simp
  have RH:=qbv (n + 5) (.code::atC k2::[]) (n0::is) il2 (by omega)
  have RL:=ybh (n + 5) (.code::atC k2::[]) most rows H W d m1 m2 h1 h2 w1 w2 hw ar a n0 is K
  have gm:∀ k,k + 1 < (n0::is).length→(n0::is).getD (k + 1) 0 - (n0::is).getD k 0∈Qq (n0::is):=fun k hk=>List.mem_map.mpr ⟨k,List.mem_range.mpr (by omega),rfl⟩
  have gpos:0≤YX (Qq (n0::is)) / 2:=by
    have h0:=yaE (gm 0 (by omega))
    have f0:=Qak K
    have hk:1 < (n0::is).length:=by omega
    have i1:=K.inn ((n0::is).getD 1 0) (by rw [List.getD_eq_getElem?_getD,List.getElem?_eq_getElem hk]; exact List.getElem_mem hk)
    rw [f0] at h0
    simp only [Nat.zero_add] at h0
    omega
  have WH:=WOk.walkH (hf:=YX (Qq (n0::is)) / 2) (sh:=shF rows) (most:=most) gpos a K.z K.m (Qak K) (yas K.up (fun v hv=>(K.inn v hv).2) K.m) (fun k hk=>by have:=yaE (gm k hk); omega) (Ya H W) ⟨[],0⟩ ⟨fun kv h=>by simp at h,by have:=a.t; simp; omega⟩ (fun p hp=>by obtain ⟨_,_,_,hs⟩:=Qaj d (Qp hp); exact hs)
  have CO:=qbi ar n0 is (shF rows) H W (by have:=a.t; omega) bh
  rw [qaR d,YaN,Zad] at CO
  have KS:=yP ar n0 is (shF rows) (Ya H W) ⟨[],0⟩ (by simpa using yE H W)
  simp only [List.map_nil,List.nil_append] at KS
  generalize hkv:(Yc ar n0 is (shF rows) ⟨[],0⟩ (Ya H W)).kvs=kvs at *
  have LO:za2 kvs ar H W=((Ya H W).map fun q=>(ar.map fun t=>if (q.1 + t.1,q.2 + t.2.1)∈Ya H W then 0 else t.2.2 * zh kvs q).sum).sum:=by
    unfold za2
    rw [← KS,List.map_map]
    congr 1
    apply List.map_congr_left
    intro kv hkv'
    show _=(ar.map fun t=>if (kv.1.1 + t.1,kv.1.2 + t.2.1)∈kvs.map Prod.fst then 0 else t.2.2 * zh kvs kv.1).sum
    congr 1
    apply List.map_congr_left
    intro t ht
    have hc:kv.1∈Ya H W:=by rw [← KS]; exact List.mem_map.mpr ⟨kv,hkv',rfl⟩
    have hin:=Qp hc
    have b:=bh t ht
    rw [KS]
    have iff:((kv.1.1 + t.1,kv.1.2 + t.2.1)∈Ya H W)↔zL H W kv.1 t=false:=by
      rw [ZaZ]
      simp [zL]
      omega
    by_cases c:zL H W kv.1 t=true
    · rw [if_pos c,if_neg (by rw [iff]; simp [c])]
    · have c':zL H W kv.1 t=false:=by simpa using c
      rw [if_neg c,if_pos (iff.mpr c')]
  have RO:=qbu (n + 5) (.code::atC k2::[]) most rows H W d h1 kvs ar (fun t ht k=>by
    have z:=zU gpos WH.l k
    rw [hkv] at z
    have gb:YX (Qq (n0::is))≤most:=by
      have ne:Qq (n0::is)≠[]:=fun e=>by have:=gm 0 (by omega); rw [e] at this; simp at this
      obtain ⟨k',hk',e⟩:=List.mem_map.mp (yai ne)
      have hk2:=List.mem_range.mp hk'
      have l1:k' < (n0::is).length:=by omega
      have l2:k' + 1 < (n0::is).length:=by omega
      have i1:=K.inn ((n0::is).getD k' 0) (by rw [List.getD_eq_getElem?_getD,List.getElem?_eq_getElem l1]; exact List.getElem_mem l1)
      have i2:=K.inn ((n0::is).getD (k' + 1) 0) (by rw [List.getD_eq_getElem?_getD,List.getElem?_eq_getElem l2]; exact List.getElem_mem l2)
      have e':(n0::is).getD (k' + 1) 0 - (n0::is).getD k' 0=YX (Qq (n0::is)):=e
      omega
    have b:=a.b t ht
    have c:=a.s t ht
    exact .inr (.inr ⟨qv (by omega) (by omega),qv (by omega) (by omega)⟩))
  rw [LO] at RO
  have tpos:=a.t
  have tle:=ZaF a
  have ml:=Zbc ar n0 is (shF rows) H W
  have mw:=ybf ar n0 is (shF rows) H W
  have od:=WH.o
  have mi:∀ r∈Ql ar n0 is (shF rows) W H,∀ x∈r,x∈n0::is:=fun r hr x hx=>by
    obtain ⟨i,_,rfl⟩:=List.mem_map.mp hr
    exact QaH ar n0 is (shF rows) _ _ x hx
  have zb:∀ q,-(YX (Qq (n0::is)) / 2)≤zh kvs q∧zh kvs q≤YX (Qq (n0::is)) / 2:=fun q=>by
    have z:=zU gpos WH.l q
    rw [hkv] at z; exact z
  generalize (Yc ar n0 is (shF rows) ⟨[],0⟩ (Ya H W)).odd=odd at *
  generalize Ql ar n0 is (shF rows) W H=made at *
  generalize ((Ya H W).map fun q=>(ar.map fun t=>if (q.1 + t.1,q.2 + t.2.1)∈Ya H W then 0 else t.2.2 * zh kvs q).sum).sum=lost at *
  generalize YX (Qq (n0::is)) / 2=hf at *
  have p1:∀ hh,YaL prog.fok "rows" (.f (Zn most made)) hh=some (.f (Yd true true made)):=fun hh=>by simp [Zn]
  have iK:∀ hh,itV "keys" [.f (.tab kvs)] hh=some (kvs.map fun kv=>MV.f (Yl kv.1),[]):=fun hh=>rfl
  have cT:∀ hh,ql hh (.f (.tab kvs))=some kvs:=fun hh=>rfl
  have qM:∀ hh,yb hh (.f (Yd true true made))=some (made.map (MV.f∘Qa true)):=fun hh=>by simp [Yd]
  have qL:∀ r hh,yb hh (.f (Qa true r))=some (r.map (MV.f∘FV.int)):=fun r hh=>by simp [Qa]
  have iS:∀ hh,itV "seq" [.f (sq false (ar.map ye))] hh=some (ar.map fun t=>MV.f (ye t),[]):=fun hh=>by
    have q:=(yab hh false ar).q
    have ga:Zc hh (.f (sq false (ar.map ye)))=[]:=rfl
    simp [itV,q,ga]
  have CS:=fun hh=>Qy (yu hh) ar (by have:=a.n; omega) none none none
  have hsum:∀ hh,Yv true "sum" [.f (Qa false (ar.map fun t=>t.2.2))] hh=.ok (I (Ye ar)) hh:=fun hh=>by
    have qr:∀ L:List Int,yb hh (.f (Qa false L))=some (L.map (MV.f∘FV.int)):=fun L=>by simp [Qa]
    rw [zn,qr]
    generalize hL:(ar.map fun t=>t.2.2)=L
    have st:(ar.map fun t=>t.2.2).sum=Ye ar:=rfl
    rw [← st,hL]
    simp
  have NI:=fun hh (x:Int)=>zbx hh false x (n0::is)
  have cr:∀ kv∈kvs,∃ row x,made[kv.1.1.toNat]?=some row∧row[kv.1.2.toNat]?=some x∧x∈n0::is∧0≤kv.1.1∧0≤kv.1.2:=fun kv hk=>by
    have hc:kv.1∈Ya H W:=by rw [← KS]; exact List.mem_map.mpr ⟨kv,hk,rfl⟩
    have hin:=Qp hc
    have l1:kv.1.1.toNat < made.length:=by omega
    have e1:=List.getElem?_eq_getElem l1
    have l2:kv.1.2.toNat < (made[kv.1.1.toNat]).length:=by rw [mw _ (List.getElem_mem l1)]; omega
    exact ⟨_,_,e1,List.getElem?_eq_getElem l2,mi _ (List.getElem_mem l1) _ (List.getElem_mem l2),hin.1,hin.2.2.1⟩
  have gP:∀ kv∈kvs,zK kvs kv.1=some (zh kvs kv.1):=fun kv hk=>by
    unfold zh zK
    cases e:kvs.find? fun p=>decide (p.1=kv.1) with
    | none =>
      have:=List.find?_eq_none.mp e kv hk
      simp at this
    | some q=>rfl
  have sS:∀ (b1 b2:Bool) (rs:List (List Int)) (hz:rs.length≤1000) hh,(Qn (Zc hh (.f (Yd b1 b2 rs))) (qq (.nm 0) (Zau prog (run prog (n + 6)) none) (Za prog (run prog (n + 6)) (.blt true "sum" [.var 0]))) (rs.map (MV.f∘Qa b2)) [] [none] hh).bind (fun acc h3=>Zq true acc h3)=.ok (.f (Qa false (rs.map List.sum))) hh:=fun b1 b2 rs hz hh=>by
    have ge:Zc hh (.f (Yd b1 b2 rs))=[]:=by cases b1 <;> rfl
    rw [ge,yD (e:=MV.f∘Qa b2) (g:=fun r=>I r.sum) rs [] none (by simp [yi]; omega) (fun r _ z=>⟨some (.f (Qa b2 r)),by
      have q:yb hh (.f (Qa b2 r))=some (r.map (MV.f∘FV.int)):=by simp [Qa]
      simp [qq,q]⟩)]
    have e:(rs.map fun r=>I r.sum)=((rs.map List.sum).map FV.int).map MV.f:=by simp
    rw [List.nil_append,R.bind_ok,e,Zh]; rfl
  simp only [sq,Bool.false_eq_true,if_false] at SP AR RL RO iS
  have S1:=sS false false rows (by rw [d.len]; omega)
  have S2:=sS true true made (by omega)
  have hS:∀ (L:List Int) hh,Yv true "sum" [.f (Qa false L)] hh=.ok (I L.sum) hh:=fun L hh=>by
    have q:yb hh (.f (Qa false L))=some (L.map (MV.f∘FV.int)):=by simp [Qa]
    rw [zn,q]; simp
  have hS1:=hS (rows.map List.sum)
  have hS2:=hS (made.map List.sum)
  have q1:∀ hh,itV "seq" [.f (Yd false false rows)] hh=some (rows.map (MV.f∘Qa false),Zc hh (.f (Yd false false rows))):=fun hh=>by simp [itV,Yd]
  have q2:∀ hh,itV "seq" [.f (Yd true true made)] hh=some (made.map (MV.f∘Qa true),Zc hh (.f (Yd true true made))):=fun hh=>by simp [itV,Yd]
  have mm:∀ hh,zf true .mul (I (Ye ar)) (I ((rows.map List.sum).sum - (made.map List.sum).sum)) hh=.ok (I (odd + lost)) hh:=fun hh=>by
    rw [yo,CO]
    have b1:∀ (rs:List (List Int)),rs.length≤60→(∀ r∈rs,r.length≤60∧∀ x∈r,0≤x∧x≤most)→0≤(rs.map List.sum).sum∧(rs.map List.sum).sum≤60 * (60 * most):=fun rs hr hx=>by
      have:=zQ (M:=60 * most) (rs.map List.sum) (fun y hy=>by
        obtain ⟨r,hr',rfl⟩:=List.mem_map.mp hy
        have:=zQ r (hx r hr').2
        have l:=(hx r hr').1
        have:(r.length:Int) * most≤60 * most:=Int.mul_le_mul_of_nonneg_right (by omega) (by omega)
        omega)
      have l2:((rs.map List.sum).length:Int) * (60 * most)≤60 * (60 * most):=Int.mul_le_mul_of_nonneg_right (by simp; omega) (by omega)
      omega
    have c1:=b1 rows (by rw [d.len]; omega) (fun r hr=>⟨by rw [d.wid r hr]; omega,d.sh r hr⟩)
    have c2:=b1 made (by omega) (fun r hr=>⟨by rw [mw r hr]; omega,fun x hx=>K.inn x (mi r hr x hx)⟩)
    exact .inr (.inr ⟨qv (by omega) (by omega),qv (by omega) (by omega)⟩)
  have aM:∀ kv∈kvs,∃ row x,atM (made.map (MV.f∘Qa true)) kv.1.1=some (.f (Qa true row))∧atM (row.map (MV.f∘FV.int)) kv.1.2=some (I x)∧x∈n0::is:=fun kv hk=>by
    obtain ⟨row,x,e1,e2,e3,e4,e5⟩:=cr kv hk
    exact ⟨row,x,by rw [yA _ _ e4,List.getElem?_map,e1]; rfl,by rw [yA _ _ e5,List.getElem?_map,e2]; rfl,e3⟩
  generalize FV.lst (ar.map ye)=av at *
  generalize hxl:Qa false (n0::is)=xl at *
  generalize Yd false false rows=rv at *
  generalize Zn most rows=pr at *
  generalize Yd true true made=mv at *
  generalize Zn most made=pm at *
  generalize Qa false (ar.map fun t=>t.2.2)=sv at *
  generalize Qa false (rows.map List.sum)=s1v at *
  generalize Qa false (made.map List.sum)=s2v at *
  have tr:TrOk [.code] [.code,atC k2]:=TrOk.app [.code] [atC k2]
  rw [zbH]
  simp only [d_law]
  simp [PC,AR,MK,SP,iS,MP.stM,CS,hsum,RH,p1,RL,iK,-zn]
  refine QU (e:=fun kv:(Int×Int)×Int=>MV.f (Yl kv.1)) (Q:=fun r=>Ret (Zd _ r) _) kvs (fun i σ hh=>∃ z11 z12:Option MV,hh=[.code,atC k2]∧σ=[some (.f (.scr ns)),some (.ref 1),some (I most),some (.f rv),some (.f xl),some (.f av),some (.f pm),some (I odd),some (I (Ye ar)),some (I hf),some (.f (.tab kvs)),z11,z12,none]) ?_ ?_ ?_
  · exact ⟨none,none,rfl,rfl⟩
  · rintro i kv σ hh hi ⟨z11,z12,rfl,rfl⟩ Q hQ
    have hk:=List.mem_of_getElem? hi
    obtain ⟨row,x,e1,e2,e3⟩:=aM kv hk
    have e4:=gP kv hk
    have e5:=zb kv.1
    have ni:=NI [.code,atC k2] x
    rw [decide_eq_true e3] at ni
    obtain ⟨⟨pr',pc⟩,vv⟩:=kv
    simp only at e1 e2 e4 e5
    have pp:Zs (.f (.tup [.int pr',.int pc]))=some (pr',pc):=rfl
    generalize zh kvs (pr',pc)=v at *
    simp [Zi,p1,qM,e1,qL,e2,ni,cT,pp,e4,Zg,Qh,e5.1,e5.2]
    exact hQ _ _ ⟨_,_,rfl,rfl⟩
  · rintro σ hh ⟨z11,z12,rfl,rfl⟩
    have S1':=S1 [.code,atC k2]
    have S2':=S2 [.code,atC k2]
    simp [od.1,od.2,q1,p1,q2,MP.stM] at S1' S2' ⊢
    have ge1:∀ hh,Zc hh (.f rv)=[]:=fun hh=>by simp [Zc]
    have ge2:∀ hh,Zc hh (.f mv)=[]:=fun hh=>by simp [Zc]
    simp [S1',hS1,p1,q2,S2',hS2,mm,RO,qg,tr,-zn]
    exact hQ _ _ ⟨rfl,rfl⟩
end MP
end
section
set_option maxHeartbeats 4000000
namespace SD
open PySem L2 L3 M3 MP PyProof.Rows
noncomputable def top (i:Nat):Stmt:=PySem.Challenge.pw_dotscreen_k33_lost_at_the_edges.main.body.getD i (.Pass ⟨0,0,0,0⟩)
noncomputable abbrev QQ:Stmt:=top 7
theorem Qa0:zj prog yG ["rows"] ["rows"] QQ=true:=by decide +kernel
noncomputable abbrev QP:Stmt:=top 8
theorem YaU:zj prog QG ["rows","least","greatest","row"] ["rows","least","greatest"] QP=true:=by decide +kernel
noncomputable abbrev Qv:Stmt:=top 9
theorem Zaa:zj prog d_cells_by_rows ["high","wide","cells","row"] ["high","wide"] Qv=true:=by decide +kernel
noncomputable abbrev zi:Stmt:=YbB (top 11) 0
theorem QR:zj prog Zk ["self","most","rows","kept","fault"] ["self","most","rows"] zi=true:=by decide +kernel
noncomputable abbrev ZaS:Stmt:=top 12
theorem Yca:zj prog qaA ["picture"] ["picture"] ZaS=true:=by decide +kernel
noncomputable abbrev ZaV:Stmt:=top 13
theorem Zca:zj prog Zaz ["picture"] ["picture"] ZaV=true:=by decide +kernel
noncomputable abbrev QZ:Stmt:=top 14
theorem ya9:zj prog d_size_of ["picture"] ["picture"] QZ=true:=by decide +kernel
noncomputable abbrev zS:Stmt:=top 15
theorem za0:zj prog QE ["picture","cell"] ["picture","cell"] zS=true:=by decide +kernel
noncomputable abbrev QO:Stmt:=top 16
theorem YaW:zj prog Zy ["picture","cell"] ["picture","cell"] QO=true:=by decide +kernel
noncomputable abbrev ZQ:Stmt:=top 17
theorem ZaU:zj prog d_shade_at ["picture","cell"] ["picture","cell"] ZQ=true:=by decide +kernel
noncomputable abbrev QB:Stmt:=top 18
theorem qap:zj prog Yt ["picture","pairs","rows","cell","shade"] ["picture","pairs"] QB=true:=by decide +kernel
noncomputable abbrev qQ:Stmt:=top 19
theorem Za1:zj prog d_laid_out ["most","size","pairs"] ["most","size","pairs"] qQ=true:=by decide +kernel
noncomputable abbrev ZR:Stmt:=top 21
theorem zaT:zj prog d_ask_inks ["inks","most"] ["inks","most"] ZR=true:=by decide +kernel
noncomputable abbrev ZE:Stmt:=top 22
theorem QaA:zj prog d_ask_rising ["inks","lesser","greater"] ["inks"] ZE=true:=by decide +kernel
noncomputable abbrev YG:Stmt:=top 26
theorem zaz:zj prog d_ask_shares ["shares"] ["shares"] YG=true:=by decide +kernel
noncomputable abbrev Z0:Stmt:=top 27
theorem za7:zj prog d_dots_of ["picture","entries"] ["picture","entries"] Z0=true:=by decide +kernel
noncomputable abbrev YQ:Stmt:=top 28
theorem YaY:zj prog d_entry_of ["cell","shade","due","whole","inks","got","ink"] ["cell","shade","due","whole","inks"] YQ=true:=by decide +kernel
noncomputable abbrev qh:Stmt:=top 29
noncomputable abbrev qG:Stmt:=top 31
theorem Qax:zj prog d_ask_around ["around","down","right","share"] ["around"] qG=true:=by decide +kernel
noncomputable abbrev yK:Stmt:=top 32
theorem yaH:zj prog d_spread_on ["picture","around","inks","size","whole","entries","lefts","odd","cell","due","entry"] ["picture","around","inks"] yK=true:=by decide +kernel
noncomputable abbrev zR:Stmt:=top 33
theorem qaS:zj prog d_due_from ["lefts","cell","around"] ["lefts","cell","around"] zR=true:=by decide +kernel
noncomputable abbrev zI:Stmt:=top 35
theorem QaP:zj prog zA ["_law_script","_law_at","_law_cell","_law_m"] ["_law_script","_law_at"] zI=true:=by decide +kernel
noncomputable abbrev QF:Stmt:=top 36
theorem yax:zj prog d__law_great ["_law_script","_law_at","_law_room","_law_m","_law_cell"] ["_law_script","_law_at","_law_room"] QF=true:=by decide +kernel
noncomputable abbrev ZC:Stmt:=top 37
theorem qam:zj prog d__law_shades ["_law_script","_law_at","_law_most_here","_law_high_count","_law_wide_count","_law_m","_law_few","_law_rows","_law_r","_law_row","_law_c"] ["_law_script","_law_at","_law_most_here","_law_high_count","_law_wide_count"] ZC=true:=by decide +kernel
noncomputable abbrev ZK:Stmt:=top 38
theorem zaR:zj prog d__law_most ["_law_script","_law_at","_law_m"] ["_law_script","_law_at"] ZK=true:=by decide +kernel
noncomputable abbrev ZJ:Stmt:=top 39
theorem zaP:zj prog d__law_inks ["_law_script","_law_at","_law_most_here","_law_m","_law_met","_law_k","_law_n"] ["_law_script","_law_at","_law_most_here"] ZJ=true:=by decide +kernel
noncomputable abbrev ZI:Stmt:=top 40
theorem ZaR:zj prog d__law_size ["_law_script","_law_at","_law_most_cells","_law_m","_law_high_count","_law_wide_count"] ["_law_script","_law_at","_law_most_cells"] ZI=true:=by decide +kernel
noncomputable abbrev qI:Stmt:=top 41
theorem yaM:zj prog d__law_half ["_law_inks_here"] ["_law_inks_here"] qI=true:=by decide +kernel
noncomputable abbrev Yq:Stmt:=top 42
theorem ZS:zj prog d__law_plain_case ["_law_script","_law_at","_law_most_here","_law_size_here","_law_rows","_law_inks_here","_law_k","_law_m","_law_one","_law_middle"] ["_law_script","_law_at"] Yq=true:=by decide +kernel
noncomputable abbrev YB:Stmt:=top 43
theorem Zam:zj prog d__law_around ["_law_script","_law_at","_law_around_here","_law_k","_law_m","_law_down","_law_right","_law_share"] ["_law_script","_law_at"] YB=true:=by decide +kernel
noncomputable abbrev ZF:Stmt:=top 44
theorem Yax:zj prog d__law_lefts ["_law_rows","_law_dots","_law_around_here","_law_lefts_here","_law_odd","_law_total","_law_r","_law_c","_law_due","_law_down","_law_right","_law_share"] ["_law_rows","_law_dots","_law_around_here"] ZF=true:=by decide +kernel
noncomputable abbrev QH:Stmt:=top 45
theorem yaJ:zj prog d__law_lost ["_law_rows","_law_lefts_here","_law_around_here","_law_lost_here","_law_r","_law_c","_law_down","_law_right","_law_share"] ["_law_rows","_law_lefts_here","_law_around_here"] QH=true:=by decide +kernel
noncomputable abbrev qN:Stmt:=top 46
theorem QbQ:zj prog d_law ["_law_script","_law_at","_law_most_here","_law_rows","_law_inks_here","_law_around_here","_law_dots","_law_odd","_law_total","_law_half_here","_law_lefts_here","_law_r","_law_c","_law_apart"] ["_law_script"] qN=true:=by decide +kernel
end SD
end
section
set_option maxHeartbeats 4000000
namespace SD
open PySem PySem.Spec PyProof.Rows L2 L3 M3 MP
noncomputable def ctOf (K:PySem.W.Frag) (C_Picture c0 c1 c4 c5 cdA tbA:Addr):Tx:=⟨(fun s=>match s with
    | "Picture"=>C_Picture
    | "NoPicture"=>c0
    | "OutOfPicture"=>c1
    | "NoInks"=>c4
    | "NoShares"=>c5
    | _=>0),K,cdA,tbA,⟨88,25,88,52⟩,("nearest_ink":Str)++".<locals>."++"<lambda>"⟩
theorem all_mk {l:PySem.W.OpenLaw} {w:World} {K:PySem.W.Frag} {h:Heap} {mg:Str→Option Value} {fa:Addr} {c0:Addr} {c1:Addr} {c4:Addr} {c5:Addr} {C_Picture:Addr} {cd_Picture:ClassData} {f_i_Picture:Addr} {od_i_Picture an_i_Picture:Option Addr} {sl_i_Picture:Array (Option Value)} {oc_i_Picture kV_i_Picture dc_i_Picture pm_i_Picture cv_i_Picture ct_i_Picture:Value} {tk_LEFT:Tok} {tk_ODD:Tok} {f_near cdA tbA:Addr} {od_near an_near:Option Addr} {sl_near:Array (Option Value)} {oc_near kV_near dc_near pm_near ct_near:Value} {f_law:Addr} {od_law an_law:Option Addr} {sl_law:Array (Option Value)} {oc_law kV_law dc_law pm_law cv_law ct_law:Value} (X:K.In h) (G:h.Ns mainGlobals mg) (hfa:mg "law"=some (.ref fa))
    (S_own_rows:Src K mg "own_rows" QQ ["rows"]) (S_fault_of:Src K mg "fault_of" QP ["rows","least","greatest"]) (S_cells_by_rows:Src K mg "cells_by_rows" Qv ["high","wide"]) (S_high:Src K mg "high" ZaS ["picture"]) (S_wide:Src K mg "wide" ZaV ["picture"]) (S_size_of:Src K mg "size_of" QZ ["picture"]) (S_has_cell:Src K mg "has_cell" zS ["picture","cell"]) (S_ask_cell:Src K mg "ask_cell" QO ["picture","cell"]) (S_shade_at:Src K mg "shade_at" ZQ ["picture","cell"]) (S_with_shades:Src K mg "with_shades" QB ["picture","pairs"]) (S_laid_out:Src K mg "laid_out" qQ ["most","size","pairs"]) (S_ask_inks:Src K mg "ask_inks" ZR ["inks","most"]) (S_ask_rising:Src K mg "ask_rising" ZE ["inks"]) (S_ask_shares:Src K mg "ask_shares" YG ["shares"]) (S_dots_of:Src K mg "dots_of" Z0 ["picture","entries"]) (S_entry_of:Src K mg "entry_of" YQ ["cell","shade","due","whole","inks"]) (S_nearest_ink:Src K mg "nearest_ink" qh ["want","inks"]) (S_ask_around:Src K mg "ask_around" qG ["around"]) (S_spread_on:Src K mg "spread_on" yK ["picture","around","inks"]) (S_due_from:Src K mg "due_from" zR ["lefts","cell","around"]) (S__law_next:Src K mg "_law_next" zI ["_law_script","_law_at"]) (S__law_great:Src K mg "_law_great" QF ["_law_script","_law_at","_law_room"]) (S__law_shades:Src K mg "_law_shades" ZC ["_law_script","_law_at","_law_most_here","_law_high_count","_law_wide_count"]) (S__law_most:Src K mg "_law_most" ZK ["_law_script","_law_at"]) (S__law_inks:Src K mg "_law_inks" ZJ ["_law_script","_law_at","_law_most_here"]) (S__law_size:Src K mg "_law_size" ZI ["_law_script","_law_at","_law_most_cells"]) (S__law_half:Src K mg "_law_half" qI ["_law_inks_here"]) (S__law_plain_case:Src K mg "_law_plain_case" Yq ["_law_script","_law_at"]) (S__law_around:Src K mg "_law_around" YB ["_law_script","_law_at"]) (S__law_lefts:Src K mg "_law_lefts" ZF ["_law_rows","_law_dots","_law_around_here"]) (S__law_lost:Src K mg "_law_lost" QH ["_law_rows","_law_lefts_here","_law_around_here"]) (S_law:Src K mg "law" qN ["_law_script"])
    (z_abs:PySem.W.nsIn K mainGlobals "abs"=some none)
    (z_all:PySem.W.nsIn K mainGlobals "all"=some none)
    (z_bool:PySem.W.nsIn K mainGlobals "bool"=some none)
    (z_dict:PySem.W.nsIn K mainGlobals "dict"=some none)
    (z_divmod:PySem.W.nsIn K mainGlobals "divmod"=some none)
    (z_enumerate:PySem.W.nsIn K mainGlobals "enumerate"=some none)
    (z_int:PySem.W.nsIn K mainGlobals "int"=some none)
    (z_isinstance:PySem.W.nsIn K mainGlobals "isinstance"=some none)
    (z_len:PySem.W.nsIn K mainGlobals "len"=some none)
    (z_list:PySem.W.nsIn K mainGlobals "list"=some none)
    (z_max:PySem.W.nsIn K mainGlobals "max"=some none)
    (z_min:PySem.W.nsIn K mainGlobals "min"=some none)
    (z_range:PySem.W.nsIn K mainGlobals "range"=some none)
    (z_reversed:PySem.W.nsIn K mainGlobals "reversed"=some none)
    (z_sorted:PySem.W.nsIn K mainGlobals "sorted"=some none)
    (z_str:PySem.W.nsIn K mainGlobals "str"=some none)
    (z_sum:PySem.W.nsIn K mainGlobals "sum"=some none)
    (z_tuple:PySem.W.nsIn K mainGlobals "tuple"=some none)
    (z_zip:PySem.W.nsIn K mainGlobals "zip"=some none)
    (a0:PySem.W.nsIn K mainGlobals "NoPicture"=some (some (.ref c0)))
    (a1:PySem.W.nsIn K mainGlobals "OutOfPicture"=some (some (.ref c1)))
    (a4:PySem.W.nsIn K mainGlobals "NoInks"=some (some (.ref c4)))
    (a5:PySem.W.nsIn K mainGlobals "NoShares"=some (some (.ref c5)))
    (gn:PySem.W.specialIn K (.builtin "object.__class__") "__get__"=some (some (.builtin "getset_descriptor.__get__")))
    (tk:PySem.W.takesIn K (.builtin "object.__class__")=some true)
    (q0:PySem.W.excIn K c0 bmV "ValueError.__new__"=true)
    (q1:PySem.W.excIn K c1 bmV "ValueError.__new__"=true)
    (q4:PySem.W.excIn K c4 bmV "ValueError.__new__"=true)
    (q5:PySem.W.excIn K c5 bmV "ValueError.__new__"=true)
    (aC_Picture:PySem.W.nsIn K mainGlobals "Picture"=some (some (.ref C_Picture)))
    (ci_Picture:PySem.W.clsIn K C_Picture=some cd_Picture)
    (ty_Picture:PySem.W.typeIn K (.ref C_Picture)=some (.type "type"))
    (pg_Picture:PySem.W.plainGet K C_Picture Str.empty=true)
    (hd_Picture:PySem.W.hasDictIn K C_Picture=true)
    (po_Picture:PySem.W.plainOver K C_Picture=true)
    (sa_Picture:PySem.W.findIn K (.ref C_Picture) "__setattr__"=some (some (.builtin "object.__setattr__")))
    (cl_Picture:PySem.W.findIn K (.ref C_Picture) "__class__"=some (some (.builtin "object.__class__")))
    (mo_Picture:PySem.W.mroIn K C_Picture (.type "object")=some true)
    (n_Picture_most:PySem.W.findIn K (.ref C_Picture) "most"=some none)
    (n_Picture_rows:PySem.W.findIn K (.ref C_Picture) "rows"=some none)
    (st_Picture_dict:PySem.W.subIn K (.ref C_Picture) (.type "dict")=some false)
    (st_Picture_list:PySem.W.subIn K (.ref C_Picture) (.type "list")=some false)
    (st_Picture_tuple:PySem.W.subIn K (.ref C_Picture) (.type "tuple")=some false)
    (st_Picture_str:PySem.W.subIn K (.ref C_Picture) (.type "str")=some false)
    (st_Picture_int:PySem.W.subIn K (.ref C_Picture) (.type "int")=some false)
    (st_Picture_bool:PySem.W.subIn K (.ref C_Picture) (.type "bool")=some false)
    (sc_Picture_Picture:PySem.W.subIn K (.ref C_Picture) (.ref C_Picture)=some true)
    (mk_Picture:PySem.W.makesIn K C_Picture=true)
    (kc_Picture:PySem.W.keepIn K (.ref C_Picture)=true)
    (ai_Picture:PySem.W.findIn K (.ref C_Picture) "__init__"=some (some (.ref f_i_Picture)))
    (ii_Picture:PySem.W.isFn K (.ref f_i_Picture)=true)
    (li_Picture:K.lookup f_i_Picture=some ⟨oc_i_Picture,od_i_Picture,.func (PySem.W.fnOf "__init__" "Picture.__init__" (yj zi) (Yg zi) (yc zi) .none kV_i_Picture dc_i_Picture pm_i_Picture an_i_Picture cv_i_Picture ct_i_Picture),sl_i_Picture⟩)
    (ki_Picture:PySem.W.codeIn K cv_i_Picture "Picture.__init__"=true)
    (kp_Picture:PySem.W.keepIn K (.ref f_i_Picture)=true)
    (gl_LEFT:PySem.W.nsIn K mainGlobals "LEFT"=some (some (.int 3 tk_LEFT)))
    (gl_ODD:PySem.W.nsIn K mainGlobals "ODD"=some (some (.int 4 tk_ODD)))
    (an:PySem.W.nsIn K mainGlobals "nearest_ink"=some (some (.ref f_near)))
    (ln:K.lookup f_near=some ⟨oc_near,od_near,.func (PySem.W.fnOf "nearest_ink" "nearest_ink" (yj qh) (Yg qh) (yc qh) .none kV_near dc_near pm_near an_near (.ref cdA) ct_near),sl_near⟩)
    (kn:PySem.W.codeIn K (.ref cdA) "nearest_ink"=true)
    (kpn:PySem.W.keepIn K (.ref f_near)=true)
    (c0n:cdA≠0)
    (al:PySem.W.nsIn K mainGlobals "law"=some (some (.ref f_law)))
    (ll:K.lookup f_law=some ⟨oc_law,od_law,.func (PySem.W.fnOf "law" "law" (yj qN) (Yg qN) (yc qN) .none kV_law dc_law pm_law an_law cv_law ct_law),sl_law⟩)
    (kl:PySem.W.codeIn K cv_law "law"=true)
    (kq:PySem.W.keepIn K (.ref f_law)=true) :
    ∃ fd:FuncData,(∀ (s:Shared) (v:Value),BindsTo s fd ⟨[v],[]⟩ [("_law_script",v)])∧∀ base:Heap,K.In base→base.Ns mainGlobals mg→LamB mg base cdA tbA→FnOk l.prog w K mg base (CX1 l.prog w) 14 fa fd ["_law_script"] (ZaT K tbA ⟨88,25,88,52⟩):=by
  have e:=hfa.symm.trans (PySem.W.mg_of X G al)
  cases e
  have F_Picture:=ZaE (st:=zi) li_Picture ki_Picture kp_Picture
  have bi_Picture:=F_Picture.binds (ps:=["self","most","rows"]) fun _ _ _ _ _ _ us hl=>match us,hl with | [_,_,_],_=>rfl
  have Fl:=ZaE (st:=qN) ll kl kq
  have PN:qaZ K mg prog (ctOf K C_Picture c0 c1 c4 c5 cdA tbA) "nearest_ink" ["want","inks"]:=YbA (st:=qh) rfl rfl ln kn kpn (PySem.W.mg_of X G an) ((ZaE (st:=qh) ln kn kpn).binds (ps:=["want","inks"]) fun _ _ _ _ _ _ us hl=>match us,hl with | [_,_],_=>rfl) rfl (PySem.W.mg_none_of X G z_min) (PySem.W.mg_none_of X G z_abs) rfl c0n rfl
  have T:Text K mg prog (ctOf K C_Picture c0 c1 c4 c5 cdA tbA):=by
    refine ⟨rfl,?_,?_,?_,?_,?_,?_,?_,?_,?_,?_,?_,?_,?_,?_,?_,?_,?_⟩
    · intro f d hd hdot
      simp only [prog] at hd
      split at hd
      · cases hd; exact ⟨_,_,_,S_own_rows,.inl Qa0⟩
      · cases hd; exact ⟨_,_,_,S_fault_of,.inl YaU⟩
      · cases hd; exact ⟨_,_,_,S_cells_by_rows,.inl Zaa⟩
      · exact absurd hdot (by decide)
      · cases hd; exact ⟨_,_,_,S_high,.inl Yca⟩
      · cases hd; exact ⟨_,_,_,S_wide,.inl Zca⟩
      · cases hd; exact ⟨_,_,_,S_size_of,.inl ya9⟩
      · cases hd; exact ⟨_,_,_,S_has_cell,.inl za0⟩
      · cases hd; exact ⟨_,_,_,S_ask_cell,.inl YaW⟩
      · cases hd; exact ⟨_,_,_,S_shade_at,.inl ZaU⟩
      · cases hd; exact ⟨_,_,_,S_with_shades,.inl qap⟩
      · cases hd; exact ⟨_,_,_,S_laid_out,.inl Za1⟩
      · cases hd; exact ⟨_,_,_,S_ask_inks,.inl zaT⟩
      · cases hd; exact ⟨_,_,_,S_ask_rising,.inl QaA⟩
      · cases hd; exact ⟨_,_,_,S_ask_shares,.inl zaz⟩
      · cases hd; exact ⟨_,_,_,S_dots_of,.inl za7⟩
      · cases hd; exact ⟨_,_,_,S_entry_of,.inl YaY⟩
      · cases hd; exact ⟨_,[],_,S_nearest_ink,.inr PN⟩
      · cases hd; exact ⟨_,_,_,S_ask_around,.inl Qax⟩
      · cases hd; exact ⟨_,_,_,S_spread_on,.inl yaH⟩
      · cases hd; exact ⟨_,_,_,S_due_from,.inl qaS⟩
      · cases hd; exact ⟨_,_,_,S__law_next,.inl QaP⟩
      · cases hd; exact ⟨_,_,_,S__law_great,.inl yax⟩
      · cases hd; exact ⟨_,_,_,S__law_shades,.inl qam⟩
      · cases hd; exact ⟨_,_,_,S__law_most,.inl zaR⟩
      · cases hd; exact ⟨_,_,_,S__law_inks,.inl zaP⟩
      · cases hd; exact ⟨_,_,_,S__law_size,.inl ZaR⟩
      · cases hd; exact ⟨_,_,_,S__law_half,.inl yaM⟩
      · cases hd; exact ⟨_,_,_,S__law_plain_case,.inl ZS⟩
      · cases hd; exact ⟨_,_,_,S__law_around,.inl Zam⟩
      · cases hd; exact ⟨_,_,_,S__law_lefts,.inl Yax⟩
      · cases hd; exact ⟨_,_,_,S__law_lost,.inl yaJ⟩
      · cases hd; exact ⟨_,_,_,S_law,.inl QbQ⟩
      · cases hd
    · intro c f hi
      simp only [prog] at hi
      split at hi
      · cases hi; exact ⟨_,_,_,_,_,_,_,_,rfl,⟨mk_Picture,ai_Picture,ii_Picture,kc_Picture⟩,F_Picture,bi_Picture,PySem.W.mg_of X G aC_Picture,QR⟩
      · cases hi
    · intro x hx
      simp only [fnNames,tyNames,isTys,List.cons_append,List.nil_append,List.mem_cons,List.not_mem_nil,or_false] at hx
      rcases hx with rfl | rfl | rfl | rfl | rfl | rfl | rfl | rfl | rfl | rfl | rfl | rfl | rfl | rfl | rfl | rfl | rfl | rfl
      · exact PySem.W.mg_none_of X G z_len
      · exact PySem.W.mg_none_of X G z_sum
      · exact PySem.W.mg_none_of X G z_min
      · exact PySem.W.mg_none_of X G z_max
      · exact PySem.W.mg_none_of X G z_tuple
      · exact PySem.W.mg_none_of X G z_list
      · exact PySem.W.mg_none_of X G z_dict
      · exact PySem.W.mg_none_of X G z_list
      · exact PySem.W.mg_none_of X G z_tuple
      · exact PySem.W.mg_none_of X G z_str
      · exact PySem.W.mg_none_of X G z_int
      · exact PySem.W.mg_none_of X G z_bool
      · exact PySem.W.mg_none_of X G z_range
      · exact PySem.W.mg_none_of X G z_zip
      · exact PySem.W.mg_none_of X G z_enumerate
      · exact PySem.W.mg_none_of X G z_isinstance
      · exact PySem.W.mg_none_of X G z_sorted
      · exact PySem.W.mg_none_of X G z_reversed
    · intro c f hf
      simp only [prog] at hf
      split at hf
      · exact ⟨⟨pg_Picture,hd_Picture,po_Picture,sa_Picture⟩,n_Picture_most⟩
      · exact ⟨⟨pg_Picture,hd_Picture,po_Picture,sa_Picture⟩,n_Picture_rows⟩
      · cases hf
    · intro c t b hs
      simp only [prog] at hs
      split at hs
      · exact ⟨⟨pg_Picture,hd_Picture,po_Picture,sa_Picture⟩,cl_Picture,gn,tk,mo_Picture⟩
      · exact ⟨⟨pg_Picture,hd_Picture,po_Picture,sa_Picture⟩,cl_Picture,gn,tk,mo_Picture⟩
      · exact ⟨⟨pg_Picture,hd_Picture,po_Picture,sa_Picture⟩,cl_Picture,gn,tk,mo_Picture⟩
      · exact ⟨⟨pg_Picture,hd_Picture,po_Picture,sa_Picture⟩,cl_Picture,gn,tk,mo_Picture⟩
      · exact ⟨⟨pg_Picture,hd_Picture,po_Picture,sa_Picture⟩,cl_Picture,gn,tk,mo_Picture⟩
      · exact ⟨⟨pg_Picture,hd_Picture,po_Picture,sa_Picture⟩,cl_Picture,gn,tk,mo_Picture⟩
      · exact ⟨⟨pg_Picture,hd_Picture,po_Picture,sa_Picture⟩,cl_Picture,gn,tk,mo_Picture⟩
      · cases hs
    · intro c t b hs ht
      simp only [prog] at hs
      split at hs
      · cases hs; exact ⟨PySem.W.mg_of X G aC_Picture,zbD sc_Picture_Picture ci_Picture ty_Picture sc_Picture_Picture⟩
      · exact absurd ht (by decide)
      · exact absurd ht (by decide)
      · exact absurd ht (by decide)
      · exact absurd ht (by decide)
      · exact absurd ht (by decide)
      · exact absurd ht (by decide)
      · cases hs
    · intro c t b hs ht
      simp only [prog] at hs
      split at hs
      · exact absurd ht (by decide)
      · cases hs; exact zZ (yM (by decide)) st_Picture_dict
      · cases hs; exact zZ (yM (by decide)) st_Picture_list
      · cases hs; exact zZ (yM (by decide)) st_Picture_tuple
      · cases hs; exact zZ (yM (by decide)) st_Picture_str
      · cases hs; exact zZ (yM (by decide)) st_Picture_int
      · cases hs; exact zZ (yM (by decide)) st_Picture_bool
      · cases hs
    · intro t c b hs ht TT hTT
      simp only [prog] at hs
      split at hs
      · exact qbR (YbF _ TT hTT) ci_Picture ty_Picture
      · exact absurd ht (by decide)
      · exact absurd ht (by decide)
      · exact absurd ht (by decide)
      · exact absurd ht (by decide)
      · exact absurd ht (by decide)
      · exact absurd ht (by decide)
      · cases hs
    · intro c hc
      simp only [prog] at hc
      split at hc
      · exact ⟨q0,PySem.W.mg_of X G a0⟩
      · exact ⟨q1,PySem.W.mg_of X G a1⟩
      · exact ⟨q4,PySem.W.mg_of X G a4⟩
      · exact ⟨q5,PySem.W.mg_of X G a5⟩
      · cases hc
    · intro wd hw
      simp only [prog] at hw
      cases hw
    · exact fun t ht=>nomatch (show false=true from ht)
    · exact fun c t b hs=>nomatch (show none=some b from hs)
    · exact fun f ds h=>nomatch (show false=true from h)
    · intro c m f hm hi
      simp only [prog] at hm
      split at hm
      · exact absurd (by rfl) hi
      · cases hm
    · exact fun c hc=>nomatch (show false=true from hc)
    · intro x i hx
      simp only [prog] at hx
      split at hx
      · cases hx; exact ⟨_,PySem.W.mg_of X G gl_LEFT⟩
      · cases hx; exact ⟨_,PySem.W.mg_of X G gl_ODD⟩
      · cases hx
    · exact fun h=>nomatch (show false=true from h)
  exact ⟨PySem.W.fnOf "law" "law" (yj qN) (Yg qN) (yc qN) .none kV_law dc_law pm_law an_law cv_law ct_law,fun s v=>.of_eq rfl,fun base kb _ lb=>ybA (n:=6) T kb lb Fl rfl QbQ (fun ns hl=>⟨[],MP.run_law 0 ns hl⟩)⟩
end SD
open PySem PySem.W PyProof.Rows L2 L3 M3 SD
set_option maxRecDepth 100000 in
set_option maxHeartbeats 0 in
theorem PySem.Challenge.cw_dotscreen_k33_lost_at_the_edges_holds : PySem.Challenge.rw_dotscreen_k33_lost_at_the_edges.Holds := by
  w_on; o_law; k_head; (case hw=>w_witness2)
  k_fill
  refine' SD.walkT (l:=PySem.Challenge.rw_dotscreen_k33_lost_at_the_edges) (k:=14) (lp:=⟨88,25,88,52⟩) rfl rfl ⟨rfl,by decide,by decide⟩ (fun w h Y=>PySem.W.km_in_of Y) ?T ?C ?K ?F
  (case C =>
    intro w h KX
    refine' SD.near_code (st:=qh) KX ?a ?l ?lc ?e11 ?e18 ?e7 ?e9 ?e10 ?ne
    (case a=>k_is); (case l=>k_is); (case lc=>k_is); (case e11=>rfl); (case e18=>rfl); (case e7=>rfl); (case e9=>rfl); (case e10=>rfl); (case ne=>decide))
  (case T=>intro w h Y; exact PySem.W.km_tabs_of Y _ (by decide))
  (case K=>intro w; kernel_rfl)
  case F =>
    intro w mg fa h KX G hmg
    have S_own_rows:Src (L2.KOf KX) mg "own_rows" QQ ["rows"]:=by
      dsimp only [L2.KOf]
      refine' SD.src_mk KX G (fun _ _ _ _ _ _ us hl=>match us,hl with | [_],_=>rfl) ?a ?l ?c ?k
      (case a=>k_is); (case l=>k_is); (case c=>k_is); (case k=>k_is)
    have S_fault_of:Src (L2.KOf KX) mg "fault_of" QP ["rows","least","greatest"]:=by
      dsimp only [L2.KOf]
      refine' SD.src_mk KX G (fun _ _ _ _ _ _ us hl=>match us,hl with | [_,_,_],_=>rfl) ?a ?l ?c ?k
      (case a=>k_is); (case l=>k_is); (case c=>k_is); (case k=>k_is)
    have S_cells_by_rows:Src (L2.KOf KX) mg "cells_by_rows" Qv ["high","wide"]:=by
      dsimp only [L2.KOf]
      refine' SD.src_mk KX G (fun _ _ _ _ _ _ us hl=>match us,hl with | [_,_],_=>rfl) ?a ?l ?c ?k
      (case a=>k_is); (case l=>k_is); (case c=>k_is); (case k=>k_is)
    have S_high:Src (L2.KOf KX) mg "high" ZaS ["picture"]:=by
      dsimp only [L2.KOf]
      refine' SD.src_mk KX G (fun _ _ _ _ _ _ us hl=>match us,hl with | [_],_=>rfl) ?a ?l ?c ?k
      (case a=>k_is); (case l=>k_is); (case c=>k_is); (case k=>k_is)
    have S_wide:Src (L2.KOf KX) mg "wide" ZaV ["picture"]:=by
      dsimp only [L2.KOf]
      refine' SD.src_mk KX G (fun _ _ _ _ _ _ us hl=>match us,hl with | [_],_=>rfl) ?a ?l ?c ?k
      (case a=>k_is); (case l=>k_is); (case c=>k_is); (case k=>k_is)
    have S_size_of:Src (L2.KOf KX) mg "size_of" QZ ["picture"]:=by
      dsimp only [L2.KOf]
      refine' SD.src_mk KX G (fun _ _ _ _ _ _ us hl=>match us,hl with | [_],_=>rfl) ?a ?l ?c ?k
      (case a=>k_is); (case l=>k_is); (case c=>k_is); (case k=>k_is)
    have S_has_cell:Src (L2.KOf KX) mg "has_cell" zS ["picture","cell"]:=by
      dsimp only [L2.KOf]
      refine' SD.src_mk KX G (fun _ _ _ _ _ _ us hl=>match us,hl with | [_,_],_=>rfl) ?a ?l ?c ?k
      (case a=>k_is); (case l=>k_is); (case c=>k_is); (case k=>k_is)
    have S_ask_cell:Src (L2.KOf KX) mg "ask_cell" QO ["picture","cell"]:=by
      dsimp only [L2.KOf]
      refine' SD.src_mk KX G (fun _ _ _ _ _ _ us hl=>match us,hl with | [_,_],_=>rfl) ?a ?l ?c ?k
      (case a=>k_is); (case l=>k_is); (case c=>k_is); (case k=>k_is)
    have S_shade_at:Src (L2.KOf KX) mg "shade_at" ZQ ["picture","cell"]:=by
      dsimp only [L2.KOf]
      refine' SD.src_mk KX G (fun _ _ _ _ _ _ us hl=>match us,hl with | [_,_],_=>rfl) ?a ?l ?c ?k
      (case a=>k_is); (case l=>k_is); (case c=>k_is); (case k=>k_is)
    have S_with_shades:Src (L2.KOf KX) mg "with_shades" QB ["picture","pairs"]:=by
      dsimp only [L2.KOf]
      refine' SD.src_mk KX G (fun _ _ _ _ _ _ us hl=>match us,hl with | [_,_],_=>rfl) ?a ?l ?c ?k
      (case a=>k_is); (case l=>k_is); (case c=>k_is); (case k=>k_is)
    have S_laid_out:Src (L2.KOf KX) mg "laid_out" qQ ["most","size","pairs"]:=by
      dsimp only [L2.KOf]
      refine' SD.src_mk KX G (fun _ _ _ _ _ _ us hl=>match us,hl with | [_,_,_],_=>rfl) ?a ?l ?c ?k
      (case a=>k_is); (case l=>k_is); (case c=>k_is); (case k=>k_is)
    have S_ask_inks:Src (L2.KOf KX) mg "ask_inks" ZR ["inks","most"]:=by
      dsimp only [L2.KOf]
      refine' SD.src_mk KX G (fun _ _ _ _ _ _ us hl=>match us,hl with | [_,_],_=>rfl) ?a ?l ?c ?k
      (case a=>k_is); (case l=>k_is); (case c=>k_is); (case k=>k_is)
    have S_ask_rising:Src (L2.KOf KX) mg "ask_rising" ZE ["inks"]:=by
      dsimp only [L2.KOf]
      refine' SD.src_mk KX G (fun _ _ _ _ _ _ us hl=>match us,hl with | [_],_=>rfl) ?a ?l ?c ?k
      (case a=>k_is); (case l=>k_is); (case c=>k_is); (case k=>k_is)
    have S_ask_shares:Src (L2.KOf KX) mg "ask_shares" YG ["shares"]:=by
      dsimp only [L2.KOf]
      refine' SD.src_mk KX G (fun _ _ _ _ _ _ us hl=>match us,hl with | [_],_=>rfl) ?a ?l ?c ?k
      (case a=>k_is); (case l=>k_is); (case c=>k_is); (case k=>k_is)
    have S_dots_of:Src (L2.KOf KX) mg "dots_of" Z0 ["picture","entries"]:=by
      dsimp only [L2.KOf]
      refine' SD.src_mk KX G (fun _ _ _ _ _ _ us hl=>match us,hl with | [_,_],_=>rfl) ?a ?l ?c ?k
      (case a=>k_is); (case l=>k_is); (case c=>k_is); (case k=>k_is)
    have S_entry_of:Src (L2.KOf KX) mg "entry_of" YQ ["cell","shade","due","whole","inks"]:=by
      dsimp only [L2.KOf]
      refine' SD.src_mk KX G (fun _ _ _ _ _ _ us hl=>match us,hl with | [_,_,_,_,_],_=>rfl) ?a ?l ?c ?k
      (case a=>k_is); (case l=>k_is); (case c=>k_is); (case k=>k_is)
    have S_nearest_ink:Src (L2.KOf KX) mg "nearest_ink" qh ["want","inks"]:=by
      dsimp only [L2.KOf]
      refine' SD.src_mk KX G (fun _ _ _ _ _ _ us hl=>match us,hl with | [_,_],_=>rfl) ?a ?l ?c ?k
      (case a=>k_is); (case l=>k_is); (case c=>k_is); (case k=>k_is)
    have S_ask_around:Src (L2.KOf KX) mg "ask_around" qG ["around"]:=by
      dsimp only [L2.KOf]
      refine' SD.src_mk KX G (fun _ _ _ _ _ _ us hl=>match us,hl with | [_],_=>rfl) ?a ?l ?c ?k
      (case a=>k_is); (case l=>k_is); (case c=>k_is); (case k=>k_is)
    have S_spread_on:Src (L2.KOf KX) mg "spread_on" yK ["picture","around","inks"]:=by
      dsimp only [L2.KOf]
      refine' SD.src_mk KX G (fun _ _ _ _ _ _ us hl=>match us,hl with | [_,_,_],_=>rfl) ?a ?l ?c ?k
      (case a=>k_is); (case l=>k_is); (case c=>k_is); (case k=>k_is)
    have S_due_from:Src (L2.KOf KX) mg "due_from" zR ["lefts","cell","around"]:=by
      dsimp only [L2.KOf]
      refine' SD.src_mk KX G (fun _ _ _ _ _ _ us hl=>match us,hl with | [_,_,_],_=>rfl) ?a ?l ?c ?k
      (case a=>k_is); (case l=>k_is); (case c=>k_is); (case k=>k_is)
    have S__law_next:Src (L2.KOf KX) mg "_law_next" zI ["_law_script","_law_at"]:=by
      dsimp only [L2.KOf]
      refine' SD.src_mk KX G (fun _ _ _ _ _ _ us hl=>match us,hl with | [_,_],_=>rfl) ?a ?l ?c ?k
      (case a=>k_is); (case l=>k_is); (case c=>k_is); (case k=>k_is)
    have S__law_great:Src (L2.KOf KX) mg "_law_great" QF ["_law_script","_law_at","_law_room"]:=by
      dsimp only [L2.KOf]
      refine' SD.src_mk KX G (fun _ _ _ _ _ _ us hl=>match us,hl with | [_,_,_],_=>rfl) ?a ?l ?c ?k
      (case a=>k_is); (case l=>k_is); (case c=>k_is); (case k=>k_is)
    have S__law_shades:Src (L2.KOf KX) mg "_law_shades" ZC ["_law_script","_law_at","_law_most_here","_law_high_count","_law_wide_count"]:=by
      dsimp only [L2.KOf]
      refine' SD.src_mk KX G (fun _ _ _ _ _ _ us hl=>match us,hl with | [_,_,_,_,_],_=>rfl) ?a ?l ?c ?k
      (case a=>k_is); (case l=>k_is); (case c=>k_is); (case k=>k_is)
    have S__law_most:Src (L2.KOf KX) mg "_law_most" ZK ["_law_script","_law_at"]:=by
      dsimp only [L2.KOf]
      refine' SD.src_mk KX G (fun _ _ _ _ _ _ us hl=>match us,hl with | [_,_],_=>rfl) ?a ?l ?c ?k
      (case a=>k_is); (case l=>k_is); (case c=>k_is); (case k=>k_is)
    have S__law_inks:Src (L2.KOf KX) mg "_law_inks" ZJ ["_law_script","_law_at","_law_most_here"]:=by
      dsimp only [L2.KOf]
      refine' SD.src_mk KX G (fun _ _ _ _ _ _ us hl=>match us,hl with | [_,_,_],_=>rfl) ?a ?l ?c ?k
      (case a=>k_is); (case l=>k_is); (case c=>k_is); (case k=>k_is)
    have S__law_size:Src (L2.KOf KX) mg "_law_size" ZI ["_law_script","_law_at","_law_most_cells"]:=by
      dsimp only [L2.KOf]
      refine' SD.src_mk KX G (fun _ _ _ _ _ _ us hl=>match us,hl with | [_,_,_],_=>rfl) ?a ?l ?c ?k
      (case a=>k_is); (case l=>k_is); (case c=>k_is); (case k=>k_is)
    have S__law_half:Src (L2.KOf KX) mg "_law_half" qI ["_law_inks_here"]:=by
      dsimp only [L2.KOf]
      refine' SD.src_mk KX G (fun _ _ _ _ _ _ us hl=>match us,hl with | [_],_=>rfl) ?a ?l ?c ?k
      (case a=>k_is); (case l=>k_is); (case c=>k_is); (case k=>k_is)
    have S__law_plain_case:Src (L2.KOf KX) mg "_law_plain_case" Yq ["_law_script","_law_at"]:=by
      dsimp only [L2.KOf]
      refine' SD.src_mk KX G (fun _ _ _ _ _ _ us hl=>match us,hl with | [_,_],_=>rfl) ?a ?l ?c ?k
      (case a=>k_is); (case l=>k_is); (case c=>k_is); (case k=>k_is)
    have S__law_around:Src (L2.KOf KX) mg "_law_around" YB ["_law_script","_law_at"]:=by
      dsimp only [L2.KOf]
      refine' SD.src_mk KX G (fun _ _ _ _ _ _ us hl=>match us,hl with | [_,_],_=>rfl) ?a ?l ?c ?k
      (case a=>k_is); (case l=>k_is); (case c=>k_is); (case k=>k_is)
    have S__law_lefts:Src (L2.KOf KX) mg "_law_lefts" ZF ["_law_rows","_law_dots","_law_around_here"]:=by
      dsimp only [L2.KOf]
      refine' SD.src_mk KX G (fun _ _ _ _ _ _ us hl=>match us,hl with | [_,_,_],_=>rfl) ?a ?l ?c ?k
      (case a=>k_is); (case l=>k_is); (case c=>k_is); (case k=>k_is)
    have S__law_lost:Src (L2.KOf KX) mg "_law_lost" QH ["_law_rows","_law_lefts_here","_law_around_here"]:=by
      dsimp only [L2.KOf]
      refine' SD.src_mk KX G (fun _ _ _ _ _ _ us hl=>match us,hl with | [_,_,_],_=>rfl) ?a ?l ?c ?k
      (case a=>k_is); (case l=>k_is); (case c=>k_is); (case k=>k_is)
    have S_law:Src (L2.KOf KX) mg "law" qN ["_law_script"]:=by
      dsimp only [L2.KOf]
      refine' SD.src_mk KX G (fun _ _ _ _ _ _ us hl=>match us,hl with | [_],_=>rfl) ?a ?l ?c ?k
      (case a=>k_is); (case l=>k_is); (case c=>k_is); (case k=>k_is)
    refine' SD.all_mk KX G hmg S_own_rows S_fault_of S_cells_by_rows S_high S_wide S_size_of S_has_cell S_ask_cell S_shade_at S_with_shades S_laid_out S_ask_inks S_ask_rising S_ask_shares S_dots_of S_entry_of S_nearest_ink S_ask_around S_spread_on S_due_from S__law_next S__law_great S__law_shades S__law_most S__law_inks S__law_size S__law_half S__law_plain_case S__law_around S__law_lefts S__law_lost S_law  ?x_z_abs ?x_z_all ?x_z_bool ?x_z_dict ?x_z_divmod ?x_z_enumerate ?x_z_int ?x_z_isinstance ?x_z_len ?x_z_list ?x_z_max ?x_z_min ?x_z_range ?x_z_reversed ?x_z_sorted ?x_z_str ?x_z_sum ?x_z_tuple ?x_z_zip ?x_a0 ?x_a1 ?x_a4 ?x_a5 ?x_gn ?x_tk ?x_q0 ?x_q1 ?x_q4 ?x_q5 ?x_aC_Picture ?x_ci_Picture ?x_ty_Picture ?x_pg_Picture ?x_hd_Picture ?x_po_Picture ?x_sa_Picture ?x_cl_Picture ?x_mo_Picture ?x_n_Picture_most ?x_n_Picture_rows ?x_st_Picture_dict ?x_st_Picture_list ?x_st_Picture_tuple ?x_st_Picture_str ?x_st_Picture_int ?x_st_Picture_bool ?x_sc_Picture_Picture ?x_mk_Picture ?x_kc_Picture ?x_ai_Picture ?x_ii_Picture ?x_li_Picture ?x_ki_Picture ?x_kp_Picture ?x_gl_LEFT ?x_gl_ODD ?x_an ?x_ln ?x_kn ?x_kpn ?x_c0n ?x_al ?x_ll ?x_kl ?x_kq
    (case x_z_abs=>k_is)
    (case x_z_all=>k_is)
    (case x_z_bool=>k_is)
    (case x_z_dict=>k_is)
    (case x_z_divmod=>k_is)
    (case x_z_enumerate=>k_is)
    (case x_z_int=>k_is)
    (case x_z_isinstance=>k_is)
    (case x_z_len=>k_is)
    (case x_z_list=>k_is)
    (case x_z_max=>k_is)
    (case x_z_min=>k_is)
    (case x_z_range=>k_is)
    (case x_z_reversed=>k_is)
    (case x_z_sorted=>k_is)
    (case x_z_str=>k_is)
    (case x_z_sum=>k_is)
    (case x_z_tuple=>k_is)
    (case x_z_zip=>k_is)
    (case x_a0=>k_is)
    (case x_a1=>k_is)
    (case x_a4=>k_is)
    (case x_a5=>k_is)
    (case x_gn=>k_is)
    (case x_tk=>k_is)
    (case x_q0=>k_exc)
    (case x_q1=>k_exc)
    (case x_q4=>k_exc)
    (case x_q5=>k_exc)
    (case x_aC_Picture=>k_is)
    (case x_ci_Picture=>k_is)
    (case x_ty_Picture=>k_is)
    (case x_pg_Picture=>k_is)
    (case x_hd_Picture=>k_is)
    (case x_po_Picture=>k_is)
    (case x_sa_Picture=>k_is)
    (case x_cl_Picture=>k_is)
    (case x_mo_Picture=>k_is)
    (case x_n_Picture_most=>k_is)
    (case x_n_Picture_rows=>k_is)
    (case x_st_Picture_dict=>k_is)
    (case x_st_Picture_list=>k_is)
    (case x_st_Picture_tuple=>k_is)
    (case x_st_Picture_str=>k_is)
    (case x_st_Picture_int=>k_is)
    (case x_st_Picture_bool=>k_is)
    (case x_sc_Picture_Picture=>k_is)
    (case x_mk_Picture=>k_is)
    (case x_kc_Picture=>k_is)
    (case x_ai_Picture=>k_is)
    (case x_ii_Picture=>k_is)
    (case x_li_Picture=>k_is)
    (case x_ki_Picture=>k_is)
    (case x_kp_Picture=>k_is)
    (case x_gl_LEFT=>k_is)
    (case x_gl_ODD=>k_is)
    (case x_an=>k_is)
    (case x_ln=>k_is)
    (case x_kn=>k_is)
    (case x_kpn=>k_is)
    (case x_c0n=>decide)
    (case x_al=>k_is)
    (case x_ll=>k_is)
    (case x_kl=>k_is)
    (case x_kq=>k_is)
end
