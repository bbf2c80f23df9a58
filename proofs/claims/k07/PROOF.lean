import PyProof.Rows.All
import Wide.All
import OpenK.AllK
import Wide.FinOn
import HandS.Base
import HandS.Call
import HandS.List
import HandS.Comp
import KE.DataEq
import HandS.Exc
import HandS.Lambda
import KE.DataCmp
import KE.SortData
import KE.DataIsa
import PyProof.Rows.SeqMore
import HandS.TupAny
import HandS.Words
import HandS.WordsExc
import HandS.Conv
import HandS.TupMul
import HandS.Style
import HandS.SetBool
import HandS.Strs
import HandS.Zip
import HandS.SetFor
import KE.GoesEnum
import KE.KDictZip
import PyProof.ListRange
import HandS.Iter
import HandS.Ends
import HandS.EndBits
import HandS.ExcIs
import HandS.ExcOwn
import HandS.SortKw
import HandS.RaiseMore
import PyProof.ReprBulk
import PyProof.Rows.ReprShort
import HandS.ExcInit
import HandS.ExcField
import KE.KExcIs
import HandS.DictComp
import HandS.TupLen
import HandS.WordsDict
import KE.KDictWalk
import KE.KDictList
import KE.KDictSum
import KE.KDictCopyH
import KE.KDictPairs
import KE.GoesZip
import KE.GoesMore
import PySem.Challenge.RW_pairpicks_k07_whole_swaps_are_plans
set_option Elab.async false
set_option linter.all false
set_option maxRecDepth 100000
set_option maxHeartbeats 4000000
namespace DL
open PySem PySem.Spec PyProof.Rows L2
abbrev D := PyData
def keyD : Key → D
  | .inl i => .int i
  | .inr x => .str x
def isK : D → Bool
  | .int _ => true
  | .str _ => true
  | _ => false
def isKT : D → Bool
  | .tuple xs => xs.all isK
  | _ => false
structure LkO (o : Obj) (ks vs : List V) : Prop where
  ex : o.ExactDict
  da : ∃ es ep, o.data = .dict es ep ∧ Vals ks (es.toList.map (·.key)) ∧ Vals vs (es.toList.map (·.val))
mutual
inductive Rep (F : Hp) : V → D → Prop
  | non : Rep F .non .none
  | bl (b : Bool) : Rep F (.bl b) (.bool b)
  | int (i : Int) : Rep F (.int i) (.int i)
  | str (x : Str) : Rep F (.str x) (.str x)
  | tup {a : Addr} {vs : List V} {ds : List D} : F a = some (.tup vs) → RepAll F vs ds → Rep F (.ref a) (.tuple ds)
  | lst {a : Addr} {vs : List V} {ds : List D} : F a = some (.lst vs) → RepAll F vs ds → Rep F (.ref a) (.list ds)
  | dct {a : Addr} {o : Obj} {kvs : List (Key × V)} {ds : List (D × D)} : F a = some (.frz o (.dK kvs)) → (a == sysModules) = false → LkO o (kvs.map fun k => kV k.1) (kvs.map (·.2)) → ds.map (·.1) = kvs.map (fun k => keyD k.1) →
      RepAll F (kvs.map (·.2)) (ds.map (·.2)) → Rep F (.ref a) (.dict ds)
  | dctT {a : Addr} {o : Obj} {kvs : List (List Key × V)} {qs : List V} {ds : List (D × D)} : F a = some (.frz o (.dT kvs)) → (a == sysModules) = false → LkO o qs (kvs.map (·.2)) → ds.map (·.1) = kvs.map (fun k => PyData.tuple (k.1.map keyD)) →
      RepAll F qs (ds.map (·.1)) → RepAll F (kvs.map (·.2)) (ds.map (·.2)) → Rep F (.ref a) (.dict ds)
  | dctR {a : Addr} {o : Obj} {φ : Heap → Prop} {ks vs : List V} {ds : List (D × D)} : F a = some (.frz o (.ext φ)) → (a == sysModules) = false → LkO o ks vs → (∃ p ∈ ds, isK p.1 = false ∧ isKT p.1 = false) → RepAll F ks (ds.map (·.1)) → RepAll F vs (ds.map (·.2)) → Rep F (.ref a) (.dict ds)
inductive RepAll (F : Hp) : List V → List D → Prop
  | nil : RepAll F [] []
  | cons {v : V} {vs : List V} {d : D} {ds : List D} : Rep F v d → RepAll F vs ds → RepAll F (v :: vs) (d :: ds)
end
def Sub (F H : Hp) : Prop := ∀ b o, F b = some o → H b = some o
theorem Sub.refl (F : Hp) : Sub F F := fun _ _ h => h
theorem Sub.trans {F G H : Hp} (a : Sub F G) (b : Sub G H) : Sub F H := fun x o h => b x o (a x o h)
theorem Sub.new {F H : Hp} {p : Addr} {o : HO} (s : Sub F H) (h : H p = none) : Sub F (upd H p o) := fun b u e => by
  rw [upd_ne (ne_of_none (s b u e) h)]
  exact s b u e
theorem Sub.gone {F H : Hp} {p : Addr} (s : Sub F H) (h : H p = none) : F p = none := by
  cases e : F p with
  | none => rfl
  | some o => rw [s p o e] at h; cases h
theorem Sub.both {F H : Hp} {p : Addr} {o : HO} (s : Sub F H) (h : H p = none) : Sub (upd F p o) (upd H p o) := fun b u e => by
  by_cases hb : b = p
  · subst hb; rw [upd_same] at e ⊢; exact e
  · rw [upd_ne hb] at e ⊢; exact s b u e
theorem Sub.self {F H : Hp} {p : Addr} {o : HO} (s : Sub F H) (h : H p = some o) : Sub (upd F p o) H := fun b u e => by
  by_cases hb : b = p
  · subst hb; rw [upd_same] at e; rw [h]; exact e
  · rw [upd_ne hb] at e; exact s b u e
theorem Sub.put {F : Hp} {p : Addr} {o : HO} (h : F p = none) : Sub F (upd F p o) := Sub.new (Sub.refl F) h
theorem Sub.mut {F H : Hp} {p : Addr} {o : HO} (s : Sub F H) (h : F p = none) : Sub F (upd H p o) := fun b u e => by
  rw [upd_ne (ne_of_none e h)]
  exact s b u e
mutual
theorem Rep.mono {F G : Hp} (s : Sub F G) : ∀ {v : V} {d : D}, Rep F v d → Rep G v d
  | _, _, .non => .non
  | _, _, .bl b => .bl b
  | _, _, .int i => .int i
  | _, _, .str x => .str x
  | _, _, .tup h r => .tup (s _ _ h) (RepAll.mono s r)
  | _, _, .lst h r => .lst (s _ _ h) (RepAll.mono s r)
  | _, _, .dct h y l e r => .dct (s _ _ h) y l e (RepAll.mono s r)
  | _, _, .dctT h y l e q r => .dctT (s _ _ h) y l e (RepAll.mono s q) (RepAll.mono s r)
  | _, _, .dctR h y l z q r => .dctR (s _ _ h) y l z (RepAll.mono s q) (RepAll.mono s r)
theorem RepAll.mono {F G : Hp} (s : Sub F G) : ∀ {vs : List V} {ds : List D}, RepAll F vs ds → RepAll G vs ds
  | _, _, .nil => .nil
  | _, _, .cons h r => .cons (Rep.mono s h) (RepAll.mono s r)
end
section
variable {F : Hp}
theorem RepAll.length {vs : List V} {ds : List D} (h : RepAll F vs ds) : vs.length = ds.length := by
  induction ds generalizing vs with
  | nil => cases h; rfl
  | cons d ds ih => cases h with | cons _ r => simp [ih r]
theorem RepAll.app {vs ws : List V} {ds es : List D} (h : RepAll F vs ds) (k : RepAll F ws es) : RepAll F (vs ++ ws) (ds ++ es) := by
  induction ds generalizing vs with
  | nil => cases h; exact k
  | cons d ds ih => cases h with | cons x r => exact .cons x (ih r)
theorem RepAll.one {v : V} {d : D} (h : Rep F v d) : RepAll F [v] [d] := .cons h .nil
theorem RepAll.get {vs : List V} {ds : List D} (h : RepAll F vs ds) : ∀ {i : Nat} {v : V}, vs[i]? = some v → ∃ d, ds[i]? = some d ∧ Rep F v d := by
  induction ds generalizing vs with
  | nil => cases h; intro i v e; simp at e
  | cons d ds ih =>
    cases h with
    | cons x r =>
      intro i v e
      cases i with
      | zero => simp at e; subst e; exact ⟨d, rfl, x⟩
      | succ i => exact ih r (by simpa using e)
theorem RepAll.get' {vs : List V} {ds : List D} (h : RepAll F vs ds) : ∀ {i : Nat} {d : D}, ds[i]? = some d → ∃ v, vs[i]? = some v ∧ Rep F v d := by
  induction ds generalizing vs with
  | nil => intro i v e; simp at e
  | cons d ds ih =>
    cases h with
    | cons x r =>
      intro i v e
      cases i with
      | zero => simp at e; subst e; exact ⟨_, rfl, x⟩
      | succ i => exact ih r (by simpa using e)
theorem RepAll.take {vs : List V} {ds : List D} (h : RepAll F vs ds) : ∀ n, RepAll F (vs.take n) (ds.take n) := by
  induction ds generalizing vs with
  | nil => cases h; intro n; simp; exact .nil
  | cons d ds ih =>
    cases h with
    | cons x r =>
      intro n
      cases n with
      | zero => exact .nil
      | succ n => exact .cons x (ih r n)
theorem RepAll.drop {vs : List V} {ds : List D} (h : RepAll F vs ds) : ∀ n, RepAll F (vs.drop n) (ds.drop n) := by
  induction ds generalizing vs with
  | nil => cases h; intro n; simp; exact .nil
  | cons d ds ih =>
    cases h with
    | cons x r =>
      intro n
      cases n with
      | zero => exact .cons x r
      | succ n => exact ih r n
theorem RepAll.rev {vs : List V} {ds : List D} (h : RepAll F vs ds) : RepAll F vs.reverse ds.reverse := by
  induction ds generalizing vs with
  | nil => cases h; exact .nil
  | cons d ds ih =>
    cases h with
    | cons x r => rw [List.reverse_cons, List.reverse_cons]; exact (ih r).app (.one x)
theorem RepAll.erase {vs : List V} {ds : List D} (h : RepAll F vs ds) : ∀ n, RepAll F (vs.eraseIdx n) (ds.eraseIdx n) := by
  induction ds generalizing vs with
  | nil => cases h; intro n; simp; exact .nil
  | cons d ds ih =>
    cases h with
    | cons x r =>
      intro n
      cases n with
      | zero => exact r
      | succ n => exact .cons x (ih r n)
theorem RepAll.ins {vs : List V} {ds : List D} {v : V} {d : D} (h : RepAll F vs ds) (k : Rep F v d) : ∀ n, RepAll F (vs.take n ++ v :: vs.drop n) (ds.take n ++ d :: ds.drop n) :=
  fun n => (h.take n).app (.cons k (h.drop n))
theorem RepAll.set {vs : List V} {ds : List D} {v : V} {d : D} (h : RepAll F vs ds) (k : Rep F v d) : ∀ n, RepAll F (vs.set n v) (ds.set n d) := by
  induction ds generalizing vs with
  | nil => cases h; intro n; simp; exact .nil
  | cons d ds ih =>
    cases h with
    | cons x r =>
      intro n
      cases n with
      | zero => exact .cons k r
      | succ n => exact .cons x (ih r n)
theorem RepAll.rep {vs : List V} {ds : List D} (h : RepAll F vs ds) : ∀ n : Nat, RepAll F (List.replicate n vs).flatten (List.replicate n ds).flatten
  | 0 => .nil
  | n + 1 => by
    rw [List.replicate_succ, List.replicate_succ, List.flatten_cons, List.flatten_cons]
    exact h.app (RepAll.rep h n)
theorem RepAll.ints : ∀ ns : List Int, RepAll F (ns.map V.int) (ns.map PyData.int)
  | [] => .nil
  | n :: ns => .cons (.int n) (RepAll.ints ns)
theorem RepAll.of_ints : ∀ {ns : List Int} {vs : List V}, RepAll F vs (ns.map PyData.int) → vs = ns.map V.int
  | [], _, .nil => rfl
  | n :: ns, _, .cons h r => by cases h; rw [RepAll.of_ints r]; rfl
end
theorem reads_key {h : Heap} {k : Key} {u : Value} (e : keyIs k u = true) : ∃ as, Reads h u (keyD k) as := by
  rcases keyIs_shape e with ⟨i, t, rfl, rfl⟩ | ⟨x, t, rfl, rfl⟩
  · exact ⟨_, .int i t⟩
  · exact ⟨_, .str x t⟩
theorem reads_keys {P : Program} {w : World} {h : Heap} : ∀ {es : List DictEntry} {kvs : List (Key × Value)}, Pairs (mixKind P w) es kvs → ∃ as, ReadsAll h (es.map (·.key)) (kvs.map fun k => keyD k.1) as
  | _, _, .nil => ⟨_, .nil⟩
  | _, _, .cons h1 _ r => by
    obtain ⟨as, q⟩ := reads_key (h := h) h1
    obtain ⟨bs, p⟩ := reads_keys (h := h) r
    exact ⟨_, .cons q p⟩
theorem pairs_vals {P : Program} {w : World} : ∀ {es : List DictEntry} {kvs : List (Key × Value)}, Pairs (mixKind P w) es kvs → es.map (·.val) = kvs.map (·.2)
  | _, _, .nil => rfl
  | _, _, .cons _ h2 r => by rw [List.map_cons, List.map_cons, h2, pairs_vals r]
theorem kv_keys {κ : Type} {f : κ → D} : ∀ {kvs : List (κ × V)} {vs : List (κ × Value)}, KV kvs vs → kvs.map (fun k => f k.1) = vs.map (fun k => f k.1)
  | _, _, .nil => rfl
  | _, _, .cons h r => by rw [List.map_cons, List.map_cons, h.1, kv_keys r]
theorem kv_vals {κ : Type} : ∀ {kvs : List (κ × V)} {vs : List (κ × Value)}, KV kvs vs → Vals (kvs.map (·.2)) (vs.map (·.2))
  | _, _, .nil => .nil
  | _, _, .cons h r => .cons h.2 (kv_vals r)
theorem rel_key : ∀ k : Key, ∀ {u : Value}, RelV (kV k) u → keyIs k u = true
  | .inl i, _, ⟨t, e⟩ => by subst e; exact keyIs_int i t
  | .inr x, _, ⟨t, e⟩ => by subst e; exact keyIs_str x t
theorem reads_tupkey {h : Heap} : ∀ {ks : List Key} {us : List Value}, Vals (ks.map kV) us → ∃ as, ReadsAll h us (ks.map keyD) as
  | [], _, .nil => ⟨_, .nil⟩
  | k :: ks, _, .cons r rr => by
    obtain ⟨as, q⟩ := reads_key (h := h) (rel_key k r)
    obtain ⟨bs, p⟩ := reads_tupkey (h := h) rr
    exact ⟨_, .cons q p⟩
theorem reads_kV {h : Heap} : ∀ (kvs : List (Key × V)) {us : List Value}, Vals (kvs.map fun k => kV k.1) us → ∃ as, ReadsAll h us (kvs.map fun k => keyD k.1) as
  | [], _, .nil => ⟨_, .nil⟩
  | k :: kvs, _, .cons r rr => by
    obtain ⟨as, q⟩ := reads_key (h := h) (rel_key k.1 r)
    obtain ⟨bs, p⟩ := reads_kV (h := h) kvs rr
    exact ⟨_, .cons q p⟩
mutual
theorem Rep.reads {P : Program} {w : World} {F H : Hp} {h : Heap} (ok : HOk P w H h) (s : Sub F H) : ∀ {v : V} {d : D} {u : Value}, Rep F v d → RelV v u → ∃ as, Reads h u d as
  | _, _, _, .non, r => by cases r; exact ⟨_, .none⟩
  | _, _, _, .bl b, r => by cases r; exact ⟨_, .bool b⟩
  | _, _, _, .int i, r => by obtain ⟨t, rfl⟩ := r; exact ⟨_, .int i t⟩
  | _, _, _, .str x, r => by obtain ⟨t, rfl⟩ := r; exact ⟨_, .str x t⟩
  | _, _, _, .tup ha rs, r => by
    cases r
    obtain ⟨_, its, rv, o, e, c, n, d⟩ := ok _ _ (s _ _ ha)
    obtain ⟨as, q⟩ := RepAll.reads ok s rs rv
    exact ⟨_, .tuple e c d q⟩
  | _, _, _, .lst ha rs, r => by
    cases r
    obtain ⟨_, its, n, rv, e⟩ := ok _ _ (s _ _ ha)
    obtain ⟨as, q⟩ := RepAll.reads ok s rs rv
    exact ⟨_, .list e rfl rfl q⟩
  | _, _, _, .dct ha _ l ke rs, r => by
    cases r
    obtain ⟨es, ep, d, vk, vv⟩ := l.da
    obtain ⟨e, _⟩ := ok _ _ (s _ _ ha)
    obtain ⟨as, q⟩ := RepAll.reads ok s rs vv
    obtain ⟨bs, p⟩ := reads_kV (h := h) _ vk
    refine ⟨_, .dict e l.ex.1 d (as := bs) (bs := as) ?_ q⟩
    rw [ke]; exact p
  | _, _, _, .dctT ha _ l _ rk rs, r => by
    cases r
    obtain ⟨es, ep, d, vk, vv⟩ := l.da
    obtain ⟨e, _⟩ := ok _ _ (s _ _ ha)
    obtain ⟨as, q⟩ := RepAll.reads ok s rs vv
    obtain ⟨bs, p⟩ := RepAll.reads ok s rk vk
    exact ⟨_, .dict e l.ex.1 d (as := bs) (bs := as) p q⟩
  | _, _, _, .dctR ha _ l _ rk rs, r => by
    cases r
    obtain ⟨es, ep, d, vk, vv⟩ := l.da
    obtain ⟨e, _⟩ := ok _ _ (s _ _ ha)
    obtain ⟨as, q⟩ := RepAll.reads ok s rs vv
    obtain ⟨bs, p⟩ := RepAll.reads ok s rk vk
    exact ⟨_, .dict e l.ex.1 d (as := bs) (bs := as) p q⟩
theorem RepAll.reads {P : Program} {w : World} {F H : Hp} {h : Heap} (ok : HOk P w H h) (s : Sub F H) : ∀ {vs : List V} {ds : List D} {us : List Value}, RepAll F vs ds → Vals vs us → ∃ as, ReadsAll h us ds as
  | _, _, _, .nil, .nil => ⟨_, .nil⟩
  | _, _, _, .cons h1 rs, .cons r1 rr => by
    obtain ⟨as, q⟩ := Rep.reads ok s h1 r1
    obtain ⟨bs, p⟩ := RepAll.reads ok s rs rr
    exact ⟨_, .cons q p⟩
end
end DL
namespace DL
open PySem PySem.Spec PyProof.Rows L2
structure XD where
  cls : Value
  fs : Option (List (Str × D))
inductive Ev where
  | d (x : D) | nl (xs : List D) | o (k : Nat) | v (x : V) | nd (kvs : List (D × D)) | er (x : XD)
structure Px where
  tag : Nat
  ok : Hp → V → Prop
  mono : ∀ {F G : Hp} {v : V}, Sub F G → ok F v → ok G v
inductive Sl where
  | un | d (x : D) | o (k : Nat) | v (x : V) | sc (K : PySem.W.Frag) (ns : List Int) | er (x : XD) | px (p : Px)
inductive Own where
  | gone | ls (xs : List D) | dc (kvs : List (D × D)) | st (t : Nat) | tb (P : Addr) (q : Str) | lk (o : Obj) (kvs : List (D × D))
structure AS where
  sl : List Sl
  ow : List Own
  n : Nat
def DcOk (F H : Hp) (p : Addr) (kvs : List (D × D)) : Prop :=
  (∃ ks : List (Key × V), H p = some (.dK ks) ∧ kvs.map (·.1) = ks.map (fun k => keyD k.1) ∧ RepAll F (ks.map (·.2)) (kvs.map (·.2))) ∨
  (∃ ks : List (List Key × V), H p = some (.dT ks) ∧ kvs.map (·.1) = ks.map (fun k => PyData.tuple (k.1.map keyD)) ∧ RepAll F (ks.map (·.2)) (kvs.map (·.2))) ∨
  (∃ (φ : Heap → Prop) (ks vs : List V), H p = some (.ext φ) ∧ (∀ h o, φ h → h.get? p = some o → (p == sysModules) = false ∧ LkO o ks vs) ∧ (∃ q ∈ kvs, isK q.1 = false ∧ isKT q.1 = false) ∧ RepAll F ks (kvs.map (·.1)) ∧ RepAll F vs (kvs.map (·.2)))
def DcLk (F H : Hp) (p : Addr) (o : Obj) (kvs : List (D × D)) : Prop :=
  (∃ ks : List (Key × V), H p = some (.frz o (.dK ks)) ∧ (p == sysModules) = false ∧ LkO o (ks.map fun k => kV k.1) (ks.map (·.2)) ∧ kvs.map (·.1) = ks.map (fun k => keyD k.1) ∧ RepAll F (ks.map (·.2)) (kvs.map (·.2))) ∨
  (∃ (ks : List (List Key × V)) (qs : List V), H p = some (.frz o (.dT ks)) ∧ (p == sysModules) = false ∧ LkO o qs (ks.map (·.2)) ∧ kvs.map (·.1) = ks.map (fun k => PyData.tuple (k.1.map keyD)) ∧ RepAll F qs (kvs.map (·.1)) ∧ RepAll F (ks.map (·.2)) (kvs.map (·.2)))
def StOk (F H : Hp) (st L : Addr) (t : Nat) : Prop := ∃ (C : Addr) (large cells : List Int) (left turn : Int),
  H st = some (.dK [(Sum.inr "large", V.ref L), (Sum.inr "cells", V.ref C), (Sum.inr "left", V.int left), (Sum.inr "turn", V.int turn)]) ∧
  H L = some (.lst (large.map V.int)) ∧ F C = some (.lst (cells.map V.int)) ∧ 0 ≤ turn ∧ turn ≤ (t : Int) ∧ large.length ≤ 100000
def ErrO (cls : Value) (d : Option Addr) (a : Addr) : HO := .ext fun h => ∃ (oe : Obj) (vs : Array Value), h.get? a = some oe ∧ Zc cls d oe ∧ oe.data = .fields vs
def XfOk (F : Hp) (x : XD) (d : Option Addr) : Prop := match x.fs with
  | none => d = none
  | some fs => ∃ p ws, d = some p ∧ F p = some (.xd ws) ∧ ws.map (·.1) = fs.map (·.1) ∧ RepAll F (ws.map (·.2)) (fs.map (·.2))
def ErOk (F : Hp) (x : XD) (v : V) : Prop := ∃ a d, v = .ref a ∧ F a = some (ErrO x.cls d a) ∧ XfOk F x d
def CodesF (F : Hp) (q : Str) (ps : Array Value) : Prop := TriplesOk ps.toList ∧ ∀ (pos : Pos) (cv : Value), codeAmong pos ps.toList = some cv → ∃ c, cv = .ref c ∧ F c = some (LamX.CodeO c q)
def OwnOk (F H : Hp) (fp : List Addr) : Own → Prop
  | .gone => fp = []
  | .ls xs => ∃ p vs, fp = [p] ∧ H p = some (.lst vs) ∧ RepAll F vs xs
  | .dc kvs => ∃ p, fp = [p] ∧ DcOk F H p kvs
  | .lk o kvs => ∃ p, fp = [p] ∧ DcLk F H p o kvs
  | .st t => ∃ st L, fp = [st, L] ∧ StOk F H st L t
  | .tb P q => fp = [P] ∧ ∃ ps, H P = some (.tbl ps) ∧ CodesF F q ps
def Lk (K : PySem.W.Frag) (ns : List Int) (F : Hp) (p : Addr) : Prop := (∃ o, F p = some (.frz o (.lst (ns.map V.int)))) ∨ ∀ H, SqL K H p (ns.map V.int)
theorem Lk.mono {K : PySem.W.Frag} {ns : List Int} {F G : Hp} {p : Addr} (h : Lk K ns F p) (s : Sub F G) : Lk K ns G p := h.imp (fun ⟨o, e⟩ => ⟨o, s _ _ e⟩) id
theorem Lk.sq {K : PySem.W.Frag} {ns : List Int} {F : Hp} {p : Addr} (h : Lk K ns F p) : SqL K F p (ns.map V.int) := h.elim (fun ⟨o, e⟩ => .inl (.inr ⟨o, e⟩)) fun k => k F
def SlOk (F : Hp) (fps : List (List Addr)) : Sl → Option V → Prop
  | .un, _ => True
  | .d x, r => ∃ v, r = some v ∧ Rep F v x
  | .o k, r => ∃ p ps, r = some (.ref p) ∧ fps[k]? = some (p :: ps)
  | .v x, r => r = some x
  | .sc K ns, r => ∃ p, r = some (.ref p) ∧ Lk K ns F p
  | .er x, r => ∃ v, r = some v ∧ ErOk F x v
  | .px p, r => ∃ v, r = some v ∧ p.ok F v
theorem XfOk.mono {F F' : Hp} {x : XD} {d : Option Addr} (f : Sub F F') (h : XfOk F x d) : XfOk F' x d := by
  unfold XfOk at h ⊢
  split at h
  · exact h
  · obtain ⟨p, ws, e, q, r, t⟩ := h
    exact ⟨p, ws, e, f _ _ q, r, t.mono f⟩
theorem ErOk.mono {F F' : Hp} {x : XD} {v : V} (f : Sub F F') (h : ErOk F x v) : ErOk F' x v := by
  obtain ⟨a, d, e, q, t⟩ := h
  exact ⟨a, d, e, f _ _ q, t.mono f⟩
theorem CodesF.mono {F F' : Hp} {q : Str} {ps : Array Value} (f : Sub F F') (h : CodesF F q ps) : CodesF F' q ps :=
  ⟨h.1, fun pos cv e => let ⟨c, e1, e2⟩ := h.2 pos cv e; ⟨c, e1, f _ _ e2⟩⟩
def ValOk (F H : Hp) (fps : List (List Addr)) : Ev → V → Prop
  | .d x, v => Rep F v x
  | .nl xs, v => ∃ p vs, v = .ref p ∧ H p = some (.lst vs) ∧ F p = none ∧ p ∉ fps.flatten ∧ RepAll F vs xs
  | .nd kvs, v => ∃ p, v = .ref p ∧ DcOk F H p kvs ∧ F p = none ∧ p ∉ fps.flatten
  | .o k, v => ∃ p ps, v = .ref p ∧ fps[k]? = some (p :: ps)
  | .v x, v => v = x
  | .er x, v => ErOk F x v
abbrev Sgm := L2.St
def NewOk (H : Hp) : Ev → V → Prop
  | .nl _, v => ∀ p, v = .ref p → H p = none
  | .nd _, v => ∀ p, v = .ref p → H p = none
  | _, _ => True
structure AOk (a : AS) (σ : Sgm) (F H : Hp) (fps : List (List Addr)) : Prop where
  sub : Sub F H
  nd : fps.flatten.Nodup
  len : fps.length = a.ow.length
  own : ∀ (k : Nat) (fp : List Addr) (c : Own), fps[k]? = some fp → a.ow[k]? = some c → OwnOk F H fp c
  nf : ∀ p ∈ fps.flatten, F p = none
  ln : σ.length = a.sl.length
  sl : ∀ (i : Nat) (s : Sl), a.sl[i]? = some s → SlOk F fps s (σ[i]?.join)
  nn : a.n ≤ a.ow.length
  tp : ∀ b xs, H b = some (.tup xs) → F b = some (.tup xs)
structure Le (F H : Hp) (P : List Addr) (F' H' : Hp) (P' : List Addr) : Prop where
  fr : Sub F F'
  hp : ∀ b o, b ∉ P → H b = some o → H' b = some o
  nw : ∀ b, F' b ≠ none → F b ≠ none ∨ H b = none ∨ b ∈ P
  pw : ∀ b, b ∈ P' → b ∈ P ∨ H b = none
  ex : ∀ b, H' b = none → H b = none
theorem Le.refl (F H : Hp) (P : List Addr) : Le F H P F H P := ⟨Sub.refl F, fun _ _ _ h => h, fun _ h => .inl h, fun _ h => .inl h, fun _ h => h⟩
theorem Le.trans {F H F1 H1 F2 H2 : Hp} {P P1 P2 : List Addr} (a : Le F H P F1 H1 P1) (b : Le F1 H1 P1 F2 H2 P2) : Le F H P F2 H2 P2 where
  fr := a.fr.trans b.fr
  hp := fun x o n h => b.hp x o (fun m => (a.pw x m).elim n fun z => by rw [z] at h; cases h) (a.hp x o n h)
  nw := fun x h => by
    rcases b.nw x h with h1 | h1 | h1
    · exact a.nw x h1
    · by_cases hx : x ∈ P
      · exact .inr (.inr hx)
      · refine .inr (.inl ?_)
        cases e : H x with
        | none => rfl
        | some o => rw [a.hp x o hx e] at h1; cases h1
    · rcases a.pw x h1 with h2 | h2
      · exact .inr (.inr h2)
      · exact .inr (.inl h2)
  pw := fun x h => by
    rcases b.pw x h with h1 | h1
    · exact a.pw x h1
    · by_cases hx : x ∈ P
      · exact .inl hx
      · refine .inr ?_
        cases e : H x with
        | none => rfl
        | some o => rw [a.hp x o hx e] at h1; cases h1
  ex := fun x h => a.ex x (b.ex x h)
theorem Le.ext {F H F' H' : Hp} {P : List Addr} (f : Sub F F') (h : Sub H H') (n : ∀ b, F' b ≠ none → F b ≠ none ∨ H b = none) : Le F H P F' H' P :=
  ⟨f, fun b o _ e => h b o e, fun b e => (n b e).elim .inl fun z => .inr (.inl z), fun _ e => .inl e, fun b e => h.gone e⟩
theorem Le.newH {F H : Hp} {P : List Addr} {q : Addr} {o : HO} (h : H q = none) : Le F H P F (upd H q o) P :=
  .ext (Sub.refl F) (Sub.put h) fun _ e => .inl e
theorem Le.newF {F H : Hp} {P : List Addr} {q : Addr} {o : HO} (s : Sub F H) (h : H q = none) : Le F H P (upd F q o) (upd H q o) P :=
  .ext (Sub.put (s.gone h)) (Sub.put h) fun b e => by
    by_cases hb : b = q
    · exact .inr (by rw [hb]; exact h)
    · rw [upd_ne hb] at e; exact .inl e
theorem Le.freeze {F H : Hp} {P : List Addr} {q : Addr} {o : HO} (h : F q = none) (hn : H q = none ∨ q ∈ P) : Le F H P (upd F q o) H P :=
  ⟨Sub.put h, fun _ _ _ e => e, fun b e => by
    by_cases hb : b = q
    · subst hb; exact hn.elim (fun z => .inr (.inl z)) fun z => .inr (.inr z)
    · rw [upd_ne hb] at e; exact .inl e, fun _ e => .inl e, fun _ e => e⟩
theorem Le.notP {F H F' H' : Hp} {P P' : List Addr} (l : Le F H P F' H' P') {p : Addr} {o : HO} (h : H p = some o) (n : p ∉ P) : p ∉ P' := fun m =>
  (l.pw p m).elim n fun z => by rw [z] at h; cases h
theorem Le.noF {F H F' H' : Hp} {P P' : List Addr} (l : Le F H P F' H' P') {p : Addr} {o : HO} (h : H p = some o) (n : p ∉ P) (f : F p = none) : F' p = none := by
  cases e : F' p with
  | none => rfl
  | some u =>
    rcases l.nw p (by rw [e]; simp) with z | z | z
    · exact absurd f z
    · rw [z] at h; cases h
    · exact absurd z n
theorem DcOk.mono {F H F' H' : Hp} {p : Addr} {kvs : List (D × D)} (f : Sub F F') (h : ∀ o, H p = some o → H' p = some o) (d : DcOk F H p kvs) : DcOk F' H' p kvs := by
  rcases d with ⟨ks, e, k, r⟩ | ⟨ks, e, k, r⟩ | ⟨φ, ks, vs, e, k, z, r, q⟩
  · exact .inl ⟨ks, h _ e, k, r.mono f⟩
  · exact .inr (.inl ⟨ks, h _ e, k, r.mono f⟩)
  · exact .inr (.inr ⟨φ, ks, vs, h _ e, k, z, r.mono f, q.mono f⟩)
theorem DcOk.there {F H : Hp} {p : Addr} {kvs : List (D × D)} (d : DcOk F H p kvs) : ∃ o, H p = some o := by
  rcases d with ⟨ks, e, _⟩ | ⟨ks, e, _⟩ | ⟨φ, ks, vs, e, _⟩ <;> exact ⟨_, e⟩
theorem DcLk.mono {F H F' H' : Hp} {p : Addr} {o : Obj} {kvs : List (D × D)} (f : Sub F F') (h : ∀ o, H p = some o → H' p = some o) (d : DcLk F H p o kvs) : DcLk F' H' p o kvs := by
  rcases d with ⟨ks, e, y, l, k, r⟩ | ⟨ks, qs, e, y, l, k, q, r⟩
  · exact .inl ⟨ks, h _ e, y, l, k, r.mono f⟩
  · exact .inr ⟨ks, qs, h _ e, y, l, k, q.mono f, r.mono f⟩
theorem DcLk.there {F H : Hp} {p : Addr} {o : Obj} {kvs : List (D × D)} (d : DcLk F H p o kvs) : ∃ o, H p = some o := by
  rcases d with ⟨ks, e, _⟩ | ⟨ks, qs, e, _⟩ <;> exact ⟨_, e⟩
theorem OwnOk.mono {F H F' H' : Hp} {fp : List Addr} {c : Own} (f : Sub F F') (h : ∀ p ∈ fp, ∀ o, H p = some o → H' p = some o) (x : OwnOk F H fp c) : OwnOk F' H' fp c := by
  cases c with
  | gone => exact x
  | ls xs => obtain ⟨p, vs, e, hp, r⟩ := x; subst e; exact ⟨p, vs, rfl, h p (by simp) _ hp, r.mono f⟩
  | dc kvs => obtain ⟨p, e, d⟩ := x; subst e; exact ⟨p, rfl, d.mono f (h p (by simp))⟩
  | lk o kvs => obtain ⟨p, e, d⟩ := x; subst e; exact ⟨p, rfl, d.mono f (h p (by simp))⟩
  | st t =>
    obtain ⟨st, L, e, C, la, ce, le, tu, h1, h2, h3, h4⟩ := x
    subst e
    exact ⟨st, L, rfl, C, la, ce, le, tu, h st (by simp) _ h1, h L (by simp) _ h2, f _ _ h3, h4⟩
  | tb P q =>
    obtain ⟨e, ps, h1, h2⟩ := x
    subst e
    exact ⟨rfl, ps, h P (by simp) _ h1, h2.mono f⟩
theorem OwnOk.there {F H : Hp} {fp : List Addr} {c : Own} (x : OwnOk F H fp c) : ∀ p ∈ fp, ∃ o, H p = some o := by
  cases c with
  | gone => have e : fp = [] := x; subst e; intro p hp; simp at hp
  | ls xs => obtain ⟨p, vs, e, hp, r⟩ := x; subst e; intro q hq; simp at hq; subst hq; exact ⟨_, hp⟩
  | dc kvs => obtain ⟨p, e, d⟩ := x; subst e; intro q hq; simp at hq; subst hq; exact d.there
  | lk o kvs => obtain ⟨p, e, d⟩ := x; subst e; intro q hq; simp at hq; subst hq; exact d.there
  | st t =>
    obtain ⟨st, L, e, C, la, ce, le, tu, h1, h2, h3, h4⟩ := x
    subst e
    intro q hq
    simp at hq
    rcases hq with rfl | rfl
    · exact ⟨_, h1⟩
    · exact ⟨_, h2⟩
  | tb P q =>
    obtain ⟨e, ps, h1, _⟩ := x
    subst e
    intro z hz
    simp at hz
    subst hz
    exact ⟨_, h1⟩
theorem SlOk.mono {F F' : Hp} {fps : List (List Addr)} {s : Sl} {r : Option V} (f : Sub F F') (x : SlOk F fps s r) : SlOk F' fps s r := by
  cases s with
  | un => trivial
  | d x' => obtain ⟨v, e, q⟩ := x; exact ⟨v, e, q.mono f⟩
  | o k => exact x
  | v y => exact x
  | sc K ns => obtain ⟨p, e, q⟩ := x; exact ⟨p, e, q.mono f⟩
  | er y => obtain ⟨v, e, q⟩ := x; exact ⟨v, e, q.mono f⟩
  | px p => obtain ⟨v, e, q⟩ := x; exact ⟨v, e, p.mono f q⟩
theorem NewOk.back {F H F1 H1 : Hp} {P P1 : List Addr} (l : Le F H P F1 H1 P1) {r : Ev} {v : V} (n : NewOk H1 r v) : NewOk H r v := by
  cases r with
  | nl xs => exact fun p e => l.ex p (n p e)
  | nd xs => exact fun p e => l.ex p (n p e)
  | _ => trivial
theorem ValOk.le {F H F' H' : Hp} {fps : List (List Addr)} {r : Ev} {v : V} (l : Le F H fps.flatten F' H' fps.flatten) (x : ValOk F H fps r v) : ValOk F' H' fps r v := by
  cases r with
  | d y => exact Rep.mono l.fr x
  | nl xs => obtain ⟨p, vs, e, h, f, n, r⟩ := x; exact ⟨p, vs, e, l.hp p _ n h, l.noF h n f, n, r.mono l.fr⟩
  | nd kvs =>
    obtain ⟨p, e, d, f, n⟩ := x
    obtain ⟨o, h⟩ := d.there
    exact ⟨p, e, d.mono l.fr fun o q => l.hp p o n q, l.noF h n f, n⟩
  | o k => exact x
  | v y => exact x
  | er y => exact ErOk.mono l.fr x
section
variable {a : AS} {σ : Sgm} {F H F' H' : Hp} {fps : List (List Addr)}
theorem flat_mem {fps : List (List Addr)} {k : Nat} {fp : List Addr} {p : Addr} (h : fps[k]? = some fp) (m : p ∈ fp) : p ∈ fps.flatten :=
  List.mem_flatten.mpr ⟨fp, List.mem_of_getElem? h, m⟩
theorem tp_upd (h : ∀ b xs, H b = some (.tup xs) → F b = some (.tup xs)) {p : Addr} {o : HO} (ht : ∀ xs, o ≠ .tup xs := by intro _ z; cases z) : ∀ b xs, upd H p o b = some (.tup xs) → F b = some (.tup xs) := fun b xs e => by
  by_cases hb : b = p
  · subst hb; rw [upd_same] at e; cases e; exact absurd rfl (ht xs)
  · rw [upd_ne hb] at e; exact h b xs e
theorem AOk.there (x : AOk a σ F H fps) : ∀ p ∈ fps.flatten, ∃ o, H p = some o := fun p hp => by
  obtain ⟨fp, hf, m⟩ := List.mem_flatten.mp hp
  obtain ⟨k, hk⟩ := List.mem_iff_getElem?.mp hf
  have hl : k < a.ow.length := by rw [← x.len]; exact (List.getElem?_eq_some_iff.mp hk).1
  exact (x.own k fp _ hk (List.getElem?_eq_getElem hl)).there p m
theorem AOk.ext (x : AOk a σ F H fps) (f : Sub F F') (s : Sub F' H') (h : Sub H H') (n : ∀ b, F' b ≠ none → F b ≠ none ∨ H b = none) (tp : ∀ b xs, H' b = some (.tup xs) → H b = some (.tup xs) ∨ F' b = some (.tup xs)) : AOk a σ F' H' fps where
  sub := s
  nd := x.nd
  len := x.len
  own := fun k fp c e1 e2 => (x.own k fp c e1 e2).mono f fun p _ o e => h p o e
  nf := fun p hp => by
    cases e : F' p with
    | none => rfl
    | some u =>
      obtain ⟨o, ho⟩ := x.there p hp
      rcases n p (by rw [e]; simp) with z | z
      · exact absurd (x.nf p hp) z
      · rw [z] at ho; cases ho
  ln := x.ln
  sl := fun i s e => (x.sl i s e).mono f
  nn := x.nn
  tp := fun b xs e => (tp b xs e).elim (fun z => f _ _ (x.tp b xs z)) id
theorem AOk.newH {q : Addr} {o : HO} (x : AOk a σ F H fps) (h : H q = none) (ht : ∀ xs, o ≠ .tup xs := by intro _ z; cases z) : AOk a σ F (upd H q o) fps :=
  x.ext (Sub.refl F) (x.sub.new h) (Sub.put h) (fun _ e => .inl e) fun b xs e => by
    by_cases hb : b = q
    · subst hb; rw [upd_same] at e; cases e; exact absurd rfl (ht xs)
    · rw [upd_ne hb] at e; exact .inl e
theorem AOk.newF {q : Addr} {o : HO} (x : AOk a σ F H fps) (h : H q = none) : AOk a σ (upd F q o) (upd H q o) fps :=
  x.ext (Sub.put (x.sub.gone h)) (x.sub.both h) (Sub.put h) (fun b e => by
    by_cases hb : b = q
    · exact .inr (by rw [hb]; exact h)
    · rw [upd_ne hb] at e; exact .inl e) fun b xs e => by
    by_cases hb : b = q
    · subst hb; rw [upd_same] at e ⊢; exact .inr e
    · rw [upd_ne hb] at e; exact .inl e
theorem AOk.freeze {q : Addr} {o : HO} (x : AOk a σ F H fps) (h : H q = some o) (hf : F q = none) (n : q ∉ fps.flatten) : AOk a σ (upd F q o) H fps where
  sub := x.sub.self h
  nd := x.nd
  len := x.len
  own := fun k fp c e1 e2 => (x.own k fp c e1 e2).mono (Sub.put hf) fun p _ o e => e
  nf := fun p hp => by rw [upd_ne (fun z => n (by rw [← z]; exact hp))]; exact x.nf p hp
  ln := x.ln
  sl := fun i s e => (x.sl i s e).mono (Sub.put hf)
  nn := x.nn
  tp := fun b xs e => Sub.put hf _ _ (x.tp b xs e)
end
abbrev WE := AS → (Ev → AS → Prop) → (XD → AS → Prop) → Prop
abbrev WT := AS → (Bool → AS → Prop) → (XD → AS → Prop) → Prop
abbrev WA := AS → (List Ev → AS → Prop) → (XD → AS → Prop) → Prop
def XdOk (F H : Hp) (fps : List (List Addr)) (x : XD) (d : Option Addr) : Prop := match x.fs with
  | none => d = none
  | some fs => ∃ p ws, d = some p ∧ F p = some (.xd ws) ∧ ws.map (·.1) = fs.map (·.1) ∧ RepAll F (ws.map (·.2)) (fs.map (·.2))
def KOk (K : Ev → AS → Prop) (n : Nat) (σ : Sgm) (F H : Hp) (fps : List (List Addr)) (Q : VK) : Prop :=
  ∀ r a' v F' H', K r a' → a'.n = n → AOk a' σ F' H' fps → Le F H fps.flatten F' H' fps.flatten → ValOk F' H' fps r v → NewOk H r v → Q v H'
def BOk (E : XK) (B : XD → AS → Prop) (n : Nat) (σ : Sgm) (F H : Hp) (fps : List (List Addr)) : Prop :=
  ∀ x a' d F' H', B x a' → a'.n = n → AOk a' σ F' H' fps → Le F H fps.flatten F' H' fps.flatten → XdOk F' H' fps x d → E x.cls d H'
theorem BOk.le {E : XK} {B : XD → AS → Prop} {n : Nat} {σ : Sgm} {F H F1 H1 : Hp} {fps : List (List Addr)} (b : BOk E B n σ F H fps) (l : Le F H fps.flatten F1 H1 fps.flatten) : BOk E B n σ F1 H1 fps :=
  fun x a' d F' H' h0 h1 h2 h3 h4 => b x a' d F' H' h0 h1 h2 (l.trans h3) h4
def ValsOk (F H : Hp) (fps : List (List Addr)) : List Ev → List V → Prop := Paired (ValOk F H fps)
def isN : Ev → Bool
  | .nl _ => true
  | .nd _ => true
  | _ => false
inductive NewsOk (H : Hp) : List Ev → List V → Prop
  | nil : NewsOk H [] []
  | cons {r : Ev} {v : V} {rs : List Ev} {vs : List V} : NewOk H r v → NewsOk H rs vs → (isN r = true → ∀ x ∈ rs.zip vs, isN x.1 = true → x.2 ≠ v) → NewsOk H (r :: rs) (v :: vs)
theorem NewsOk.backs {F H F1 H1 : Hp} {P P1 : List Addr} {rs : List Ev} {vs : List V} (n : NewsOk H1 rs vs) (l : Le F H P F1 H1 P1) : NewsOk H rs vs := by
  induction n with
  | nil => exact .nil
  | cons h _ a ih => exact .cons (h.back l) ih a
theorem NewsOk.apart {F H1 : Hp} {fps : List (List Addr)} {rs : List Ev} {vs : List V} (n : NewsOk H1 rs vs) {r : Ev} {v : V} (h : ValOk F H1 fps r v) : isN r = true → ∀ x ∈ rs.zip vs, isN x.1 = true → x.2 ≠ v := by
  intro hr
  have hv : ∃ p o, v = .ref p ∧ H1 p = some o := by
    cases r with
    | nl xs => obtain ⟨p, vs, e, hp, _⟩ := h; exact ⟨p, _, e, hp⟩
    | nd kvs => obtain ⟨p, e, d, _⟩ := h; obtain ⟨o, ho⟩ := d.there; exact ⟨p, o, e, ho⟩
    | _ => cases hr
  obtain ⟨p, o, e, ho⟩ := hv
  subst e
  induction n with
  | nil => intro x hx; simp at hx
  | cons h1 _ _ ih =>
    intro x hx
    rcases List.mem_cons.mp hx with q | q
    · subst q
      intro hn e
      simp only at hn e
      subst e
      have key : ∀ r1 : Ev, isN r1 = true → NewOk H1 r1 (.ref p) → False := fun r1 hn h1 => by
        cases r1 with
        | nl xs => rw [h1 p rfl] at ho; cases ho
        | nd xs => rw [h1 p rfl] at ho; cases ho
        | _ => cases hn
      exact key _ hn h1
    · exact ih x q
def SndE (E : XK) (te : TE) (w : WE) : Prop :=
  ∀ a K B, w a K B → ∀ σ F H fps, AOk a σ F H fps → ∀ Q, KOk K a.n σ F H fps Q → BOk E B a.n σ F H fps → te σ H Q
def SndT (E : XK) (tt : TT) (w : WT) : Prop :=
  ∀ a K B, w a K B → ∀ σ F H fps, AOk a σ F H fps → ∀ Q : Bool → Hp → Prop,
    (∀ b a' F' H', K b a' → a'.n = a.n → AOk a' σ F' H' fps → Le F H fps.flatten F' H' fps.flatten → Q b H') → BOk E B a.n σ F H fps → tt σ H Q
def SndA (E : XK) (ta : TA) (w : WA) : Prop :=
  ∀ a K B, w a K B → ∀ σ F H fps, AOk a σ F H fps → ∀ Q : List V → Hp → Prop,
    (∀ rs a' vs F' H', K rs a' → a'.n = a.n → AOk a' σ F' H' fps → Le F H fps.flatten F' H' fps.flatten → ValsOk F' H' fps rs vs → NewsOk H rs vs → Q vs H') → BOk E B a.n σ F H fps → ta σ H Q
structure DE (X : Cx) (E : XK) (e : Expr) (te : TE) (w : WE) : Prop where
  pe : PE X e te
  so : SndE E te w
structure DT (X : Cx) (E : XK) (e : Expr) (tt : TT) (w : WT) : Prop where
  pt : PT X e tt
  so : SndT E tt w
structure DW (X : Cx) (E : XK) (e : Expr) (tt : TT) (w : WT) : Prop where
  pw : PW X e tt
  so : SndT E tt w
structure DA (X : Cx) (E : XK) (es : List Expr) (ta : TA) (w : WA) : Prop where
  pa : PA X es ta
  so : SndA E ta w
structure AE where
  nx : AS → Prop
  rt : Ev → AS → Prop
  bk : AS → Prop := fun _ => False
  ct : AS → Prop := fun _ => False
  xb : XD → AS → Prop := fun _ _ => False
abbrev WS := AS → AE → Prop
structure EndsOk (E : XK) (n : Nat) (A : AE) (F H : Hp) (fps : List (List Addr)) (D : Ends) : Prop where
  nx : ∀ a' σ' F' H' fps', A.nx a' → AOk a' σ' F' H' fps' → Le F H fps.flatten F' H' fps'.flatten → fps'.take n = fps.take n → a'.n = n → D.nx σ' H'
  rt : ∀ r a' σ' v F' H' fps', A.rt r a' → AOk a' σ' F' H' fps' → Le F H fps.flatten F' H' fps'.flatten → fps'.take n = fps.take n → a'.n = n → ValOk F' H' fps' r v → NewOk H r v → D.rt v H'
  bk : ∀ a' σ' F' H' fps', A.bk a' → AOk a' σ' F' H' fps' → Le F H fps.flatten F' H' fps'.flatten → fps'.take n = fps.take n → a'.n = n → D.bk σ' H'
  ct : ∀ a' σ' F' H' fps', A.ct a' → AOk a' σ' F' H' fps' → Le F H fps.flatten F' H' fps'.flatten → fps'.take n = fps.take n → a'.n = n → D.ct σ' H'
  xb : ∀ x a' σ' d F' H' fps', A.xb x a' → AOk a' σ' F' H' fps' → Le F H fps.flatten F' H' fps'.flatten → fps'.take n = fps.take n → a'.n = n → XdOk F' H' fps' x d → E x.cls d H'
theorem EndsOk.le {E : XK} {n : Nat} {A : AE} {F H F1 H1 : Hp} {fps fps1 : List (List Addr)} {D : Ends} (e : EndsOk E n A F H fps D) (l : Le F H fps.flatten F1 H1 fps1.flatten) (t : fps1.take n = fps.take n) : EndsOk E n A F1 H1 fps1 D where
  nx := fun a' σ' F' H' fps' h1 h2 h3 h4 h5 => e.nx a' σ' F' H' fps' h1 h2 (l.trans h3) (h4.trans t) h5
  rt := fun r a' σ' v F' H' fps' h1 h2 h3 h4 h5 h6 h7 => e.rt r a' σ' v F' H' fps' h1 h2 (l.trans h3) (h4.trans t) h5 h6 (h7.back l)
  bk := fun a' σ' F' H' fps' h1 h2 h3 h4 h5 => e.bk a' σ' F' H' fps' h1 h2 (l.trans h3) (h4.trans t) h5
  ct := fun a' σ' F' H' fps' h1 h2 h3 h4 h5 => e.ct a' σ' F' H' fps' h1 h2 (l.trans h3) (h4.trans t) h5
  xb := fun x a' σ' d F' H' fps' h1 h2 h3 h4 h5 h6 => e.xb x a' σ' d F' H' fps' h1 h2 (l.trans h3) (h4.trans t) h5 h6
def SndS (E : XK) (ts : TS) (w : WS) : Prop :=
  ∀ a A, w a A → ∀ σ F H fps, AOk a σ F H fps → ∀ D, EndsOk E a.n A F H fps D → ts D σ H
structure DS (X : Cx) (E : XK) (st : Stmt) (ts : TS) (w : WS) : Prop where
  ps : PS X st ts
  so : SndS E ts w
structure DSs (X : Cx) (E : XK) (sts : List Stmt) (ts : TS) (w : WS) : Prop where
  ps : PSs X sts ts
  so : SndS E ts w
end DL
namespace DL
open PySem PySem.Spec PyProof.Rows L2
def vw (a : AS) : Ev → Option D
  | .d x => some x
  | .nl xs => some (.list xs)
  | .nd _ => none
  | .o k => match a.ow[k]? with
    | some (.ls xs) => some (.list xs)
    | _ => none
  | .v _ => none
  | .er _ => none
section
variable {a : AS} {σ : Sgm} {F H : Hp} {fps : List (List Addr)}
theorem own_at (x : AOk a σ F H fps) {k : Nat} {p : Addr} {ps : List Addr} {c : Own} (h : fps[k]? = some (p :: ps)) (e : a.ow[k]? = some c) : OwnOk F H (p :: ps) c := x.own k _ c h e
theorem vw_rep (x : AOk a σ F H fps) {r : Ev} {v : V} {d : D} (h : ValOk F H fps r v) (e : vw a r = some d) : Rep H v d := by
  cases r with
  | d y => cases e; exact Rep.mono x.sub h
  | nl xs => cases e; obtain ⟨p, vs, rfl, hp, _, _, r⟩ := h; exact .lst hp (r.mono x.sub)
  | nd kvs => cases e
  | o k =>
    obtain ⟨p, ps, rfl, hk⟩ := h
    unfold vw at e
    simp only at e
    split at e
    · rename_i xs hx
      cases e
      obtain ⟨q, vs, e1, hq, r⟩ := own_at x hk hx
      cases e1
      exact .lst hq (r.mono x.sub)
    · cases e
  | v y => cases e
  | er y => cases e
theorem vw_list (x : AOk a σ F H fps) {r : Ev} {v : V} {ds : List D} (h : ValOk F H fps r v) (e : vw a r = some (.list ds)) : ∃ p vs, v = .ref p ∧ H p = some (.lst vs) ∧ RepAll F vs ds := by
  cases r with
  | d y => cases e; cases h with | lst h1 h2 => exact ⟨_, _, rfl, x.sub _ _ h1, h2⟩
  | nl xs => cases e; obtain ⟨p, vs, rfl, hp, _, _, r⟩ := h; exact ⟨p, vs, rfl, hp, r⟩
  | nd kvs => cases e
  | o k =>
    obtain ⟨p, ps, rfl, hk⟩ := h
    unfold vw at e
    simp only at e
    split at e
    · rename_i xs hx
      cases e
      obtain ⟨q, vs, e1, hq, r⟩ := own_at x hk hx
      cases e1
      exact ⟨p, vs, rfl, hq, r⟩
    · cases e
  | v y => cases e
  | er y => cases e
theorem vw_tup (x : AOk a σ F H fps) {r : Ev} {v : V} {ds : List D} (h : ValOk F H fps r v) (e : vw a r = some (.tuple ds)) : ∃ p vs, v = .ref p ∧ F p = some (.tup vs) ∧ H p = some (.tup vs) ∧ RepAll F vs ds := by
  cases r with
  | d y => cases e; cases h with | tup h1 h2 => exact ⟨_, _, rfl, h1, x.sub _ _ h1, h2⟩
  | nl xs => cases e
  | nd kvs => cases e
  | o k =>
    obtain ⟨p, ps, rfl, hk⟩ := h
    unfold vw at e
    simp only at e
    split at e <;> cases e
  | v y => cases e
  | er y => cases e
theorem vw_int (x : AOk a σ F H fps) {r : Ev} {v : V} {i : Int} (h : ValOk F H fps r v) (e : vw a r = some (.int i)) : v = .int i := by
  have q := vw_rep x h e
  cases q; rfl
theorem vw_bl (x : AOk a σ F H fps) {r : Ev} {v : V} {i : Bool} (h : ValOk F H fps r v) (e : vw a r = some (.bool i)) : v = .bl i := by
  have q := vw_rep x h e
  cases q; rfl
theorem vw_str (x : AOk a σ F H fps) {r : Ev} {v : V} {i : Str} (h : ValOk F H fps r v) (e : vw a r = some (.str i)) : v = .str i := by
  have q := vw_rep x h e
  cases q; rfl
end
def wVar (i : Nat) : WE := fun a K _ => match a.sl[i]? with
  | some (.d x) => K (.d x) a
  | some (.o k) => K (.o k) a
  | some (.v x) => K (.v x) a
  | some (.er x) => K (.er x) a
  | _ => False
theorem snd_var {E : XK} {i : Nat} : SndE E (tVar i) (wVar i) := by
  intro a K B h σ F H fps x Q q _
  unfold wVar at h
  have hl := x.ln
  cases e : a.sl[i]? with
  | none => rw [e] at h; exact h.elim
  | some s =>
    have z := x.sl i s e
    rw [e] at h
    have fin : ∀ v, (σ[i]?.join) = some v → σ[i]? = some (some v) := fun v e1 => by
      cases e2 : σ[i]? with
      | none => rw [e2] at e1; cases e1
      | some o => rw [e2] at e1; exact congrArg some e1
    cases s with
    | un => exact h.elim
    | d y => obtain ⟨v, e1, r⟩ := z; exact ⟨v, fin v e1, q _ _ _ _ _ h rfl x (Le.refl _ _ _) r trivial⟩
    | o k => obtain ⟨p, ps, e1, r⟩ := z; exact ⟨_, fin _ e1, q _ _ _ _ _ h rfl x (Le.refl _ _ _) ⟨p, ps, rfl, r⟩ trivial⟩
    | v y => exact ⟨y, fin _ z, q _ _ _ _ _ h rfl x (Le.refl _ _ _) rfl trivial⟩
    | sc _ _ => exact h.elim
    | px _ => exact h.elim
    | er y => obtain ⟨v, e1, r⟩ := z; exact ⟨v, fin v e1, q _ _ _ _ _ h rfl x (Le.refl _ _ _) r trivial⟩
def wC (r : Ev) : WE := fun a K _ => K r a
theorem snd_c {E : XK} {r : Ev} {v : V} (h : ∀ F H fps, ValOk F H fps r v) (h2 : ∀ H, NewOk H r v := by intro _; trivial) : SndE E (tC v) (wC r) := fun a K B k σ F H fps x Q q _ => q _ _ _ _ _ k rfl x (Le.refl _ _ _) (h F H fps) (h2 H)
section
variable {X : Cx} {E : XK} {pos : Pos}
theorem dv (i : Nat) {x : Str} (hN : X.N[i]? = some x := by rfl) (hv : Vis X.env.scope x := by first | exact Or.inl rfl | exact Or.inr (Or.inl rfl) | exact Or.inr (Or.inr rfl)) (hd : (x == ("__debug__" : Str)) = false := by decide)
    (hcd : (x == ("__classdict__" : Str)) = false := by decide) : DE X E (.Name x pos) (tVar i) (wVar i) := ⟨pe_var hN hv hd hcd, snd_var⟩
theorem de_int {i : Int} {j} : DE X E (.Constant (.int i) j pos) (tC (.int i)) (wC (.d (.int i))) := ⟨pe_int, snd_c fun _ _ _ => .int i⟩
theorem de_bl {b : Bool} {j} : DE X E (.Constant (.bool b) j pos) (tC (.bl b)) (wC (.d (.bool b))) := ⟨pe_bl, snd_c fun _ _ _ => .bl b⟩
theorem de_non {j} : DE X E (.Constant .none j pos) (tC .non) (wC (.d .none)) := ⟨pe_non, snd_c fun _ _ _ => .non⟩
theorem de_str {x : Str} {j} : DE X E (.Constant (.str x) j pos) (tC (.str x)) (wC (.d (.str x))) := ⟨pe_str, snd_c fun _ _ _ => .str x⟩
theorem de_globI {x : Str} {i : Int} {t : Tok} (hg : Gl X x) (hm : X.mg x = some (.int i t)) (hd : (x == ("__debug__" : Str)) = false := by decide) : DE X E (.Name x pos) (tC (.int i)) (wC (.d (.int i))) :=
  ⟨pe_glob hg hm ⟨_, rfl⟩ hd, snd_c fun _ _ _ => .int i⟩
theorem de_globV {x : Str} {v : V} {u : Value} (hg : Gl X x) (hm : X.mg x = some u) (r : RelV v u) (hd : (x == ("__debug__" : Str)) = false := by decide) : DE X E (.Name x pos) (tC v) (wC (.v v)) :=
  ⟨pe_glob hg hm r hd, snd_c fun _ _ _ => rfl⟩
theorem de_blt {x : Str} {v : V} {u : Value} (hg : Gl X x) (hm : X.mg x = none) (hv : bootBuiltins x = some u) (r : RelV v u) (hn : x ≠ "__name__" := by decide) (hd : (x == ("__debug__" : Str)) = false := by decide) : DE X E (.Name x pos) (tC v) (wC (.v v)) :=
  ⟨pe_bltn hg hm hv r hn hd, snd_c fun _ _ _ => rfl⟩
end
abbrev G2 := AS → Ev → Ev → (Ev → Prop) → Prop
def R2S (r : R2) (g : G2) : Prop := ∀ a σ F H fps x y v u, AOk a σ F H fps → ValOk F H fps x v → ValOk F H fps y u → ∀ Kz, g a x y Kz → ∀ Q : VK,
  (∀ z v' F' H', Kz z → AOk a σ F' H' fps → Le F H fps.flatten F' H' fps.flatten → ValOk F' H' fps z v' → NewOk H z v' → Q v' H') → r v u H Q
def wOp2 (g : G2) (wa wb : WE) : WE := fun a K B => wa a (fun x a1 => wb a1 (fun y a2 => g a2 x y (fun z => K z a2)) B) B
theorem snd_op2 {E : XK} {r : R2} {g : G2} {ta tb : TE} {wa wb : WE} (h : R2S r g) (ha : SndE E ta wa) (hb : SndE E tb wb) : SndE E (tOp r ta tb) (wOp2 g wa wb) := by
  intro a K B k σ F H fps x Q q b
  refine ha a _ B k σ F H fps x _ (fun r1 a1 v1 F1 H1 k1 n1 x1 l1 o1 w1 => ?_) b
  refine hb a1 _ B k1 σ F1 H1 fps x1 _ (fun r2 a2 v2 F2 H2 k2 n2 x2 l2 o2 w2 => ?_) (by rw [n1]; exact b.le l1)
  exact h a2 σ F2 H2 fps r1 r2 v1 v2 x2 (o1.le l2) o2 _ k2 _ fun z v' F' H' kz x3 l3 o3 w3 => q z a2 v' F' H' kz (n2.trans n1) x3 ((l1.trans l2).trans l3) o3 (w3.back (l1.trans l2))
section
variable {X : Cx} {E : XK} {pos : Pos} {ea eb ec : Expr} {ta tb tc : TE} {wa wb wc : WE}
theorem de_op {op : Operator} {r : R2} {g : G2} (o : OpR X (binaryOp op) r ∧ R2S r g) (ha : DE X E ea ta wa) (hb : DE X E eb tb wb) : DE X E (.BinOp ea op eb pos) (tOp r ta tb) (wOp2 g wa wb) :=
  ⟨pe_op o.1 ha.pe hb.pe, snd_op2 o.2 ha.so hb.so⟩
theorem de_cmp {op : CmpOp} {r : R2} {g : G2} (o : OpR X (compareOp op) r ∧ R2S r g) (ha : DE X E ea ta wa) (hb : DE X E eb tb wb) (hm : behindInMarks op eb = false) : DE X E (.Compare ea [op] [eb] pos) (tOp r ta tb) (wOp2 g wa wb) :=
  ⟨pe_cmpR o.1 ha.pe hb.pe hm, snd_op2 o.2 ha.so hb.so⟩
def wTst (w : WE) : WT := fun a K B => w a (fun r a' => ∃ b, vw a' r = some (.bool b) ∧ K b a') B
theorem snd_tst {te : TE} {w : WE} (h : SndE E te w) : SndT E (tTest te) (wTst w) := by
  intro a K B k σ F H fps x Q q b
  refine h a _ B k σ F H fps x _ (fun r1 a1 v1 F1 H1 ⟨c, e1, k1⟩ n1 x1 l1 o1 w1 => ?_) b
  exact ⟨c, vw_bl x1 o1 e1, q c a1 F1 H1 k1 n1 x1 l1⟩
theorem dt_cmp {op : CmpOp} {r : R2} {g : G2} (o : OpR X (compareOp op) r ∧ R2S r g) (ha : DE X E ea ta wa) (hb : DE X E eb tb wb) (hm : behindInMarks op eb = false) : DT X E (.Compare ea [op] [eb] pos) (tTest (tOp r ta tb)) (wTst (wOp2 g wa wb)) :=
  ⟨pt_cmpR o.1 ha.pe hb.pe hm, snd_tst (snd_op2 o.2 ha.so hb.so)⟩
def wChain (g g' : G2) (wa wb wc : WE) : WE := fun a K B => wa a (fun x a1 => wb a1 (fun y a2 => g a2 x y (fun z => ∃ k, z = .d (.bool k) ∧
  if k = true then wc a2 (fun u a3 => g' a3 y u (fun z' => K z' a3)) B else K (.d (.bool false)) a2)) B) B
theorem snd_chain {r r' : R2} {g g' : G2} (h : R2S r g) (h' : R2S r' g') (ha : SndE E ta wa) (hb : SndE E tb wb) (hc : SndE E tc wc) : SndE E (tChain r r' ta tb tc) (wChain g g' wa wb wc) := by
  intro a K B k σ F H fps x Q q b
  refine ha a _ B k σ F H fps x _ (fun r1 a1 v1 F1 H1 k1 n1 x1 l1 o1 w1 => ?_) b
  refine hb a1 _ B k1 σ F1 H1 fps x1 _ (fun r2 a2 v2 F2 H2 k2 n2 x2 l2 o2 w2 => ?_) (by rw [n1]; exact b.le l1)
  refine h a2 σ F2 H2 fps r1 r2 v1 v2 x2 (o1.le l2) o2 _ k2 _ fun z v' F' H' kz x3 l3 o3 w3 => ?_
  obtain ⟨c, e, kz⟩ := kz
  subst e
  have e2 : v' = .bl c := by cases o3; rfl
  refine ⟨c, e2, ?_⟩
  cases c with
  | true =>
    simp only [if_true] at kz ⊢
    refine hc a2 _ B kz σ F' H' fps x3 _ (fun r4 a4 v4 F4 H4 k4 n4 x4 l4 o4 w4 => ?_) (by rw [n2, n1]; exact b.le ((l1.trans l2).trans l3))
    exact h' a4 σ F4 H4 fps r2 r4 v2 v4 x4 (o2.le (l3.trans l4)) o4 _ k4 _ fun z5 v5 F5 H5 kz5 x5 l5 o5 w5 => q z5 a4 v5 F5 H5 kz5 (n4.trans (n2.trans n1)) x5 ((((l1.trans l2).trans l3).trans l4).trans l5) o5 (w5.back (((l1.trans l2).trans l3).trans l4))
  | false =>
    rw [if_neg Bool.false_ne_true] at kz ⊢
    exact q _ a2 _ F' H' kz (n2.trans n1) x3 ((l1.trans l2).trans l3) (.bl false) trivial
end
end DL
namespace DL
open PySem PySem.Spec PyProof.Rows L2
section
variable {X : Cx}
def rAddT0 : R2 := fun x y H Q => ∃ a b ys, x = .ref a ∧ y = .ref b ∧ H a = some (.tup []) ∧ H b = some (.tup ys) ∧ Q y H
theorem op_addT0 : OpR X (binaryOp .Add) rAddT0 := by
  intro pins s σ H x y v u Q I rx ry h
  obtain ⟨a, b, ys, rfl, rfl, ha, hb, q⟩ := h
  cases rx
  cases ry
  obtain ⟨_, its, r1, ⟨c1, d1, t1, l1⟩, ho, hc, n, hd⟩ := I.hok _ _ ha
  obtain ⟨_, its2, r2, ⟨c2, d2, t2, l2⟩, ho2, hc2, n2, hd2⟩ := I.hok _ _ hb
  cases r1
  simp only at hc hd hc2 hd2
  subst hc hd hc2 hd2
  exact concat_meets ⟨_, ho, rfl⟩ ⟨_, ho2, rfl⟩ noFill_tuple_add seq_tuple_add PySem.F.slot_tuple_add PySem.F.entry_tuple_add (PySem.F.args_tuple_add_2 _ _)
    (tuple_addW0 a b _ _ n n2 d1 d2 l1 l2 (by simp)) ⟨ho, ho2, ⟨.ref b, H, I, rfl, q⟩⟩
def rStrAdd : R2 := fun x y H Q => ∃ i j, x = .str i ∧ y = .str j ∧ i.length + j.length ≤ sizeLine ∧ Q (.str (i ++ j)) H
def rAddD (K : PySem.W.Frag) : R2 := fun x y H Q => rI0 (fun i j => .int (i + j)) x y H Q ∨ rStrAdd x y H Q ∨ rCat x y H Q ∨ rAddT0 x y H Q ∨ rCatT K x y H Q
def gAdd : G2 := fun a x y K => match vw a x, vw a y with
  | some (.int i), some (.int j) => K (.d (.int (i + j)))
  | some (.str i), some (.str j) => i.length + j.length ≤ sizeLine ∧ K (.d (.str (i ++ j)))
  | some (.list xs), some (.list ys) => xs.length + ys.length ≤ sizeLine ∧ K (.nl (xs ++ ys))
  | some (.tuple xs), some (.tuple ys) => xs.length + ys.length ≤ sizeLine ∧ K (.d (.tuple (xs ++ ys)))
  | _, _ => False
theorem d_add : OpR X (binaryOp .Add) (rAddD X.K) ∧ R2S (rAddD X.K) gAdd := by
  refine ⟨op_add.or (op_add_str.or (op_cat.or (op_addT0.or op_catT))), ?_⟩
  intro a σ F H fps x y v u ok hx hy Kz k Q q
  unfold gAdd at k
  cases ex : vw a x with
  | none => rw [ex] at k; exact k.elim
  | some dx =>
    cases ey : vw a y with
    | none => rw [ex, ey] at k; cases dx <;> exact k.elim
    | some dy =>
      rw [ex, ey] at k
      cases dx with
      | int i =>
        cases dy with
        | int j => exact .inl ⟨i, j, vw_int ok hx ex, vw_int ok hy ey, q _ _ F H k ok (Le.refl _ _ _) (.int _) trivial⟩
        | _ => exact k.elim
      | str i =>
        cases dy with
        | str j => exact .inr (.inl ⟨i, j, vw_str ok hx ex, vw_str ok hy ey, k.1, q _ _ F H k.2 ok (Le.refl _ _ _) (.str _) trivial⟩)
        | _ => exact k.elim
      | list xs =>
        cases dy with
        | list ys =>
          obtain ⟨p, vs, rfl, hp, rp⟩ := vw_list ok hx ex
          obtain ⟨p2, vs2, rfl, hp2, rp2⟩ := vw_list ok hy ey
          refine .inr (.inr (.inl ⟨p, p2, vs, vs2, rfl, rfl, hp, hp2, by rw [rp.length, rp2.length]; exact k.1, fun r hr => ?_⟩))
          refine q _ _ F _ k.2 (ok.newH hr) (Le.newH hr) ⟨r, _, rfl, upd_same, ok.sub.gone hr, fun m => ?_, rp.app rp2⟩ fun r' e' => by cases e'; exact hr
          obtain ⟨o, ho⟩ := ok.there r m
          rw [hr] at ho; cases ho
        | _ => exact k.elim
      | tuple xs =>
        cases dy with
        | tuple ys =>
          obtain ⟨p, vs, rfl, fp, hp, rp⟩ := vw_tup ok hx ex
          obtain ⟨p2, vs2, rfl, fp2, hp2, rp2⟩ := vw_tup ok hy ey
          cases vs with
          | nil =>
            cases rp
            exact .inr (.inr (.inr (.inl ⟨p, p2, vs2, rfl, rfl, hp, hp2, q _ _ F H k.2 ok (Le.refl _ _ _) (.tup fp2 rp2) trivial⟩)))
          | cons z zs =>
            refine .inr (.inr (.inr (.inr ⟨p, p2, z :: zs, vs2, rfl, rfl, SqT.of hp, SqT.of hp2, by simp, by rw [rp.length, rp2.length]; exact k.1, fun e => ?_, fun e r hr => ?_⟩)))
            · subst e
              cases rp2
              have k2 : Kz (Ev.d (.tuple (xs ++ []))) := k.2
              rw [List.append_nil] at k2
              exact q _ _ F H k2 ok (Le.refl _ _ _) (.tup fp rp) trivial
            · exact q _ _ _ _ k.2 (ok.newF hr) (Le.newF ok.sub hr) (.tup upd_same ((rp.app rp2).mono (Sub.put (ok.sub.gone hr)))) trivial
        | _ => exact k.elim
      | _ => cases dy <;> exact k.elim
def gI (C : Int → Int → Prop) (f : Int → Int → Int) : G2 := fun a x y K => match vw a x, vw a y with
  | some (.int i), some (.int j) => C i j ∧ K (.d (.int (f i j)))
  | _, _ => False
theorem ints2 {a : AS} {x y : Ev} {P : Int → Int → Prop} (k : match vw a x, vw a y with | some (.int i), some (.int j) => P i j | _, _ => False) : ∃ i j, vw a x = some (.int i) ∧ vw a y = some (.int j) ∧ P i j := by
  cases ex : vw a x with
  | none => rw [ex] at k; exact k.elim
  | some dx =>
    cases ey : vw a y with
    | none => rw [ex, ey] at k; cases dx <;> exact k.elim
    | some dy =>
      rw [ex, ey] at k
      cases dx with
      | int i =>
        cases dy with
        | int j => exact ⟨i, j, rfl, rfl, k⟩
        | _ => exact k.elim
      | _ => cases dy <;> exact k.elim
theorem r2_I {C : Int → Int → Prop} {f : Int → Int → Int} : R2S (rI C fun i j => .int (f i j)) (gI C f) := by
  intro a σ F H fps x y v u ok hx hy Kz k Q q
  obtain ⟨i, j, ex, ey, c, k⟩ := ints2 (P := fun i j => C i j ∧ Kz (.d (.int (f i j)))) k
  exact ⟨i, j, vw_int ok hx ex, vw_int ok hy ey, c, q _ _ F H k ok (Le.refl _ _ _) (.int _) trivial⟩
theorem r2_I0 {f : Int → Int → Int} : R2S (rI0 fun i j => .int (f i j)) (gI (fun _ _ => True) f) := by
  intro a σ F H fps x y v u ok hx hy Kz k Q q
  obtain ⟨i, j, ex, ey, c, k⟩ := ints2 (P := fun i j => True ∧ Kz (.d (.int (f i j)))) k
  exact ⟨i, j, vw_int ok hx ex, vw_int ok hy ey, q _ _ F H k ok (Le.refl _ _ _) (.int _) trivial⟩
theorem d_sub : OpR X (binaryOp .Sub) (rI0 fun i j => .int (i - j)) ∧ R2S (rI0 fun i j => .int (i - j)) (gI (fun _ _ => True) fun i j => i - j) := ⟨op_sub, r2_I0⟩
theorem d_mulI : OpR X (binaryOp .Mult) (rI CMul fun i j => .int (i * j)) ∧ R2S (rI CMul fun i j => .int (i * j)) (gI CMul fun i j => i * j) := ⟨op_mul, r2_I⟩
theorem d_fdiv : OpR X (binaryOp .FloorDiv) (rI CDiv fun i j => .int (i / j)) ∧ R2S (rI CDiv fun i j => .int (i / j)) (gI CDiv fun i j => i / j) := ⟨op_fdiv, r2_I⟩
theorem d_mod : OpR X (binaryOp .Mod) (rI (fun _ j => 0 < j) fun i j => .int (i % j)) ∧ R2S (rI (fun _ j => 0 < j) fun i j => .int (i % j)) (gI (fun _ j => 0 < j) fun i j => i % j) := ⟨op_mod, r2_I⟩
theorem d_pow : OpR X (binaryOp .Pow) (rI CPow fun i j => .int (i ^ j.toNat)) ∧ R2S (rI CPow fun i j => .int (i ^ j.toNat)) (gI CPow fun i j => i ^ j.toNat) := ⟨op_pow, r2_I⟩
theorem reads_of {pins : List (Addr × Obj)} {s : Shared} {σ : Sgm} {H : Hp} {x : V} {v : Value} {d : D} (I : Inv X pins σ H s) (r : RelV x v) (h : Rep H x d) : ∃ as, Reads s.heap v d as := Rep.reads I.hok (Sub.refl H) h r
def rEqD : R2 := fun x y H Q => ∃ d e, Rep H x d ∧ Rep H y e ∧ d.plain = true ∧ e.plain = true ∧ min d.depth e.depth ≤ 150 ∧ Q (.bl (PyData.eqv d e)) H
def rNeD : R2 := fun x y H Q => ∃ d e, Rep H x d ∧ Rep H y e ∧ d.plain = true ∧ e.plain = true ∧ min d.depth e.depth ≤ 150 ∧ Q (.bl (!PyData.eqv d e)) H
theorem op_eqD (hu : X.A.units + 200 < cLine) : OpR X (compareOp .Eq) rEqD := by
  intro pins s σ H x y v u Q I rx ry h
  obtain ⟨d, e, r1, r2, p1, p2, hd, q⟩ := h
  obtain ⟨as, ra⟩ := reads_of I rx r1
  obtain ⟨bs, rb⟩ := reads_of I ry r2
  exact SeqAt.eq_plain ra rb p1 p2 (by omega) ⟨.bl _, H, I, rfl, q⟩
theorem op_neD (hu : X.A.units + 200 < cLine) : OpR X (compareOp .NotEq) rNeD := by
  intro pins s σ H x y v u Q I rx ry h
  obtain ⟨d, e, r1, r2, p1, p2, hd, q⟩ := h
  obtain ⟨as, ra⟩ := reads_of I rx r1
  obtain ⟨bs, rb⟩ := reads_of I ry r2
  exact SeqAt.ne_plain ra rb p1 p2 (by omega) ⟨.bl _, H, I, rfl, q⟩
def gEq : G2 := fun a x y K => ∃ d e, vw a x = some d ∧ vw a y = some e ∧ d.plain = true ∧ e.plain = true ∧ min d.depth e.depth ≤ 150 ∧ K (.d (.bool (PyData.eqv d e)))
def gNe : G2 := fun a x y K => ∃ d e, vw a x = some d ∧ vw a y = some e ∧ d.plain = true ∧ e.plain = true ∧ min d.depth e.depth ≤ 150 ∧ K (.d (.bool (!PyData.eqv d e)))
theorem d_eq (hu : X.A.units + 200 < cLine) : OpR X (compareOp .Eq) rEqD ∧ R2S rEqD gEq := ⟨op_eqD hu, by
  intro a σ F H fps x y v u ok hx hy Kz k Q q
  obtain ⟨d, e, ex, ey, p1, p2, p3, k⟩ := k
  exact ⟨d, e, vw_rep ok hx ex, vw_rep ok hy ey, p1, p2, p3, q _ _ F H k ok (Le.refl _ _ _) (.bl _) trivial⟩⟩
theorem d_ne (hu : X.A.units + 200 < cLine) : OpR X (compareOp .NotEq) rNeD ∧ R2S rNeD gNe := ⟨op_neD hu, by
  intro a σ F H fps x y v u ok hx hy Kz k Q q
  obtain ⟨d, e, ex, ey, p1, p2, p3, k⟩ := k
  exact ⟨d, e, vw_rep ok hx ex, vw_rep ok hy ey, p1, p2, p3, q _ _ F H k ok (Le.refl _ _ _) (.bl _) trivial⟩⟩
def rLtD (f : D → D → Bool) : R2 := fun x y H Q => ∃ d e, Rep H x d ∧ Rep H y e ∧ PySem.W.alike d e = true ∧ d ≠ .none ∧ min d.depth e.depth ≤ 150 ∧ Q (.bl (f d e)) H
def gLt (f : D → D → Bool) : G2 := fun a x y K => ∃ d e, vw a x = some d ∧ vw a y = some e ∧ PySem.W.alike d e = true ∧ d ≠ .none ∧ min d.depth e.depth ≤ 150 ∧ K (.d (.bool (f d e)))
theorem r2_lt {f : D → D → Bool} : R2S (rLtD f) (gLt f) := by
  intro a σ F H fps x y v u ok hx hy Kz k Q q
  obtain ⟨d, e, ex, ey, p1, p2, p3, k⟩ := k
  exact ⟨d, e, vw_rep ok hx ex, vw_rep ok hy ey, p1, p2, p3, q _ _ F H k ok (Le.refl _ _ _) (.bl _) trivial⟩
abbrev fLt : D → D → Bool := fun d e => PySem.W.dataLt d e
abbrev fGt : D → D → Bool := fun d e => PySem.W.dataLt e d
abbrev fLe : D → D → Bool := fun d e => !PySem.W.dataLt e d
abbrev fGe : D → D → Bool := fun d e => !PySem.W.dataLt d e
theorem d_lt (hu : X.A.units + 200 < cLine) : OpR X (compareOp .Lt) (rLtD fLt) ∧ R2S (rLtD fLt) (gLt fLt) := ⟨by
  intro pins s σ H x y v u Q I rx ry h
  obtain ⟨d, e, r1, r2, p1, p2, hd, q⟩ := h
  obtain ⟨as, ra⟩ := reads_of I rx r1
  obtain ⟨bs, rb⟩ := reads_of I ry r2
  exact PySem.W.lt_data ra rb p1 p2 (by omega) ⟨.bl _, H, I, rfl, q⟩, r2_lt⟩
theorem d_gt (hu : X.A.units + 200 < cLine) : OpR X (compareOp .Gt) (rLtD fGt) ∧ R2S (rLtD fGt) (gLt fGt) := ⟨by
  intro pins s σ H x y v u Q I rx ry h
  obtain ⟨d, e, r1, r2, p1, p2, hd, q⟩ := h
  obtain ⟨as, ra⟩ := reads_of I rx r1
  obtain ⟨bs, rb⟩ := reads_of I ry r2
  exact PySem.W.gt_data ra rb p1 p2 (by omega) ⟨.bl _, H, I, rfl, q⟩, r2_lt⟩
theorem d_le (hu : X.A.units + 200 < cLine) : OpR X (compareOp .LtE) (rLtD fLe) ∧ R2S (rLtD fLe) (gLt fLe) := ⟨by
  intro pins s σ H x y v u Q I rx ry h
  obtain ⟨d, e, r1, r2, p1, p2, hd, q⟩ := h
  obtain ⟨as, ra⟩ := reads_of I rx r1
  obtain ⟨bs, rb⟩ := reads_of I ry r2
  exact PySem.W.le_data ra rb p1 p2 (by omega) ⟨.bl _, H, I, rfl, q⟩, r2_lt⟩
theorem d_ge (hu : X.A.units + 200 < cLine) : OpR X (compareOp .GtE) (rLtD fGe) ∧ R2S (rLtD fGe) (gLt fGe) := ⟨by
  intro pins s σ H x y v u Q I rx ry h
  obtain ⟨d, e, r1, r2, p1, p2, hd, q⟩ := h
  obtain ⟨as, ra⟩ := reads_of I rx r1
  obtain ⟨bs, rb⟩ := reads_of I ry r2
  exact PySem.W.ge_data ra rb p1 p2 (by omega) ⟨.bl _, H, I, rfl, q⟩, r2_lt⟩
theorem lt_ints (i j : Int) : PySem.W.dataLt (.int i) (.int j) = decide (i < j) := by
  simp [PySem.W.dataLt, PySem.W.keyToks, PyProof.Rows.lexLt, itemLt]
def itemsD : D → Option (List D)
  | .list xs => some xs
  | .tuple xs => some xs
  | _ => none
def rInD (neg : Bool) : R2 := fun x y H Q => ∃ d e ds, Rep H x d ∧ Rep H y e ∧ itemsD e = some ds ∧ d.plain = true ∧ PyData.plainAll ds = true ∧ PyData.depthAll ds ≤ 150 ∧
  Q (.bl (if neg = true then !(ds.any fun z => PyData.eqv z d) else ds.any fun z => PyData.eqv z d)) H
def gIn (neg : Bool) : G2 := fun a x y K => ∃ d e ds, vw a x = some d ∧ vw a y = some e ∧ itemsD e = some ds ∧ d.plain = true ∧ PyData.plainAll ds = true ∧ PyData.depthAll ds ≤ 150 ∧
  K (.d (.bool (if neg = true then !(ds.any fun z => PyData.eqv z d) else ds.any fun z => PyData.eqv z d)))
theorem r2_in {neg : Bool} : R2S (rInD neg) (gIn neg) := by
  intro a σ F H fps x y v u ok hx hy Kz k Q q
  obtain ⟨d, e, ds, ex, ey, p1, p2, p3, p4, k⟩ := k
  exact ⟨d, e, ds, vw_rep ok hx ex, vw_rep ok hy ey, p1, p2, p3, p4, q _ _ F H k ok (Le.refl _ _ _) (.bl _) trivial⟩
theorem d_in (hu : X.A.units + 200 < cLine) : OpR X (compareOp .In) (rInD false) ∧ R2S (rInD false) (gIn false) := ⟨by
  intro pins s σ H x y v u Q I rx ry h
  obtain ⟨d, e, ds, r1, r2, p1, p2, p3, p4, q⟩ := h
  obtain ⟨as, ra⟩ := reads_of I rx r1
  obtain ⟨bs, rb⟩ := reads_of I ry r2
  cases e with
  | list xs => cases p1; exact SeqAt.in_list_data rb ra p3 p2 (by omega) ⟨.bl _, H, I, rfl, q⟩
  | tuple xs => cases p1; exact SeqAt.in_tuple_data rb ra p3 p2 (by omega) ⟨.bl _, H, I, rfl, q⟩
  | _ => (cases p1), r2_in⟩
theorem d_notin (hu : X.A.units + 200 < cLine) : OpR X (compareOp .NotIn) (rInD true) ∧ R2S (rInD true) (gIn true) := ⟨by
  intro pins s σ H x y v u Q I rx ry h
  obtain ⟨d, e, ds, r1, r2, p1, p2, p3, p4, q⟩ := h
  obtain ⟨as, ra⟩ := reads_of I rx r1
  obtain ⟨bs, rb⟩ := reads_of I ry r2
  cases e with
  | list xs => cases p1; exact SeqAt.notIn_list_data rb ra p3 p2 (by omega) ⟨.bl _, H, I, rfl, q⟩
  | tuple xs => cases p1; exact SeqAt.notIn_tuple_data rb ra p3 p2 (by omega) ⟨.bl _, H, I, rfl, q⟩
  | _ => (cases p1), r2_in⟩
end
end DL
namespace DL
open PySem PySem.Spec PyProof.Rows L2
section
variable {prog : Program} {w : World} {A : Around} {E : Value → Shared → Prop} {s : Shared}
theorem collect_tupD {l : Addr} {vs : List Value} {Q : List Value → Shared → Prop} (hl : IsTup s.heap l vs.toArray) (hz : vs.length ≤ sizeLine)
    (h : Q vs { s with heap := (s.heap.push (seqObj "list" #[] 0)).update s.heap.objs.size (Obj.mapSeq (· ++ vs.toArray)) }) :
    wpAny (model prog w) A (collect (.ref l)) Q E s := by
  obtain ⟨o, ho, hc, n, hd⟩ := id hl
  unfold collect
  refine wpAny_bind (wpAny_runValue (codeAny_builtin entry_proto_collect' ?_))
  show wpAny _ _ (do again (.builtin "list.__iadd__" ⟨[← newList [], .ref l], []⟩)) _ _ s
  refine wpAny_bind (wpAny_newList ?_)
  refine wpAny_pure ⟨Code.quiet_builtin _ (by decide +kernel), codeAny_builtin entry_list_iadd' ?_⟩
  show wpAny _ _ (Builtin.List.listExtendWith (.ref s.heap.objs.size) (.ref l) (.ref s.heap.objs.size)) _ _ _
  unfold Builtin.List.listExtendWith
  have ho1 : (s.heap.push (seqObj "list" #[] 0)).get? l = some o := Heap.get?_push_of_some _ ho
  refine wpAny_bind (wpAny_typeOf (T := "tuple") ⟨o, ho1, hc⟩ ?_)
  have t1 : (Value.type "tuple" == Value.type "tuple") = true := by rfl
  rw [if_pos (by rw [t1]; simp)]
  refine wpAny_bind (listItems_at ho1 hd ?_)
  refine wpAny_bind (listItems_at (xs := #[]) (n := 0) (Heap.get?_push_size _ rfl) rfl ?_)
  rw [if_neg (by simp)]
  have sz1 : ((#[] : Array Value) ++ vs.toArray).size ≤ sizeLine + 1 := by
    simp only [Array.size_append, List.size_toArray, List.length_nil]; omega
  refine wpAny_bind (listUpdate_at (xs := #[]) (n := 0) (Heap.get?_push_size _ rfl) rfl ?_ (Nat.zero_le _) sz1)
  refine wpAny_pure ?_
  show wpAny (model prog w) A (load s.heap.objs.size >>= fun o => match o.data with | .seq xs _ => pure xs.toList | _ => unsupported "internal:collect") Q E _
  refine wpAny_bind (wpAny_load (get?_update_seq (Heap.get?_push_size _ rfl) _) ?_)
  show wpAny _ _ (pure ((#[] : Array Value) ++ vs.toArray).toList) Q E _
  have e1 : ((#[] : Array Value) ++ vs.toArray).toList = vs := by simp
  rw [e1]
  exact wpAny_pure h
open PySem.W in
theorem sorted_tupD {β : Type} {vs : List Value} {bs : List β} {enc : β → PyData} {R : Value → β → Prop} {l : Addr} {Q : Value → Shared → Prop} (hl : IsTup s.heap l vs.toArray) (e : EachIs R vs bs)
    (er : EachIs (fun v b => ∃ as, Reads s.heap v (enc b) as) vs bs) (hal : AllAlike (bs.map enc)) (hk : Sortable (bs.map enc)) (hL : bs.length ≤ sizeLine)
    (hu : ∀ b, b ∈ bs → A.units + 2 + (enc b).depth < cLine)
    (h : ∀ out, out.length = bs.length → EachIs R out (bs.mergeSort (dataLe false enc)) → Q (.ref (s.heap.objs.size + 1)) { s with heap := sortedAll s.heap vs (List.toArray out) }) :
    wpAny (model prog w) A (call (.builtin "sorted") [.ref l]) Q E s := by
  have hz : vs.length ≤ sizeLine := by rw [e.length]; exact hL
  have er1 : EachIs (fun v b => ∃ as, Reads (sortingHeap (copyHeap s.heap vs) (s.heap.objs.size + 1) vs) v (enc b) as) vs bs :=
    er.mono fun _ _ ⟨as, r⟩ => ⟨as, PyProof.Rows.Reads.keeps (fun _ _ => sorting_copy_old) r⟩
  have S := SortsAt.data (prog := prog) (w := w) (A := A.in1.in1) (s := { s with heap := sortingHeap (copyHeap s.heap vs) (s.heap.objs.size + 1) vs })
    (each_map (R := fun v d => ∃ as, Reads (sortingHeap (copyHeap s.heap vs) (s.heap.objs.size + 1) vs) v d as) enc er1) hal hk (bound_map hu)
  refine call_function_entry_kw kind_sorted plain_sorted entry_sorted (args_sorted1 _) ?_
  unfold Builtin.«sorted»
  refine wpAny_bind (m := checkCount "sorted" 1 1 _) (wpAny_pure ?_)
  refine wpAny_bind (collect_tupD hl hz ?_)
  refine wpAny_bind (wpAny_newList ?_ hz)
  have hsz : ((s.heap.push (seqObj "list" #[] 0)).update s.heap.objs.size (Obj.mapSeq (· ++ vs.toArray))).objs.size = s.heap.objs.size + 1 := by
    rw [Heap.size_update, size_push']
  show wpAny _ _ _ _ _ { s with heap := copyHeap s.heap vs }
  rw [hsz]
  refine wpAny_bind (wpAny_holding (wpAny_call_entry_kw slot_list_sort ⟨_, copyHeap_at s.heap vs, rfl⟩ entry_list_sort ?body (args_list_sort _)))
  case body =>
    show wpAny (model prog w) A.in1.in1 (Builtin.«list.sort» ⟨[.ref (s.heap.objs.size + 1)], []⟩) _ _ _
    refine wpAny_mono (list_sort_vals (s := { s with heap := copyHeap s.heap vs }) (P := fun f s' => f = .done (.ret .none) ∧ Q (.ref (s.heap.objs.size + 1)) s') (copyHeap_at s.heap vs) S hz ⟨rfl, ?_⟩) (fun f s' hf => ?_) fun _ _ x => x
    · exact h _ (by rw [sortVals_length false rfl]; exact e.length) (sortVals_data false e er1 hal)
    · obtain ⟨rfl, hq⟩ := hf
      exact ⟨_, rfl, wpAny_pure ⟨_, rfl, hq⟩⟩
end
end DL
namespace DL
open PySem PySem.Spec PyProof.Rows L2
theorem repAll_paired {F : Hp} : ∀ {vs : List V} {ds : List D}, RepAll F vs ds → Paired (fun v d => Rep F v d) vs ds
  | _, _, .nil => .nil
  | _, _, .cons h r => .cons h (repAll_paired r)
theorem paired_repAll {F : Hp} : ∀ {vs : List V} {ds : List D}, Paired (fun v d => Rep F v d) vs ds → RepAll F vs ds
  | _, _, .nil => .nil
  | _, _, .cons h r => .cons h (paired_repAll r)
theorem each_of {P : V → D → Prop} {vs : List V} {us : List Value} (r : Vals vs us) : ∀ {ds : List D}, Paired P vs ds → PySem.W.EachIs (fun u d => ∃ v, RelV v u ∧ P v d) us ds := by
  induction r with
  | nil => intro ds h; cases h; exact .nil
  | cons r1 rr ih => intro ds h; cases h with | cons h1 hr => exact .cons ⟨_, r1, h1⟩ (ih hr)
theorem each_back {P : V → D → Prop} : ∀ {us : List Value} {ds : List D}, PySem.W.EachIs (fun u d => ∃ v, RelV v u ∧ P v d) us ds → ∃ vs, Vals vs us ∧ Paired P vs ds
  | _, _, .nil => ⟨[], .nil, .nil⟩
  | _, _, .cons ⟨v, r, h⟩ t => by
    obtain ⟨vs, rr, hr⟩ := each_back t
    exact ⟨v :: vs, .cons r rr, .cons h hr⟩
theorem Paired.len {α β : Type} {P : α → β → Prop} : ∀ {xs : List α} {ys : List β}, Paired P xs ys → xs.length = ys.length
  | _, _, .nil => rfl
  | _, _, .cons _ r => by rw [List.length_cons, List.length_cons, Paired.len r]
abbrev sortD (ds : List D) : List D := ds.mergeSort (PySem.W.dataLe false id)
theorem depth_le_all {d : D} : ∀ {ds : List D}, d ∈ ds → d.depth ≤ PyData.depthAll ds
  | x :: xs, h => by
    rw [PyData.depthAll]
    rcases List.mem_cons.mp h with e | e
    · rw [e]; exact Nat.le_max_left _ _
    · exact Nat.le_trans (depth_le_all e) (Nat.le_max_right _ _)
theorem each_reads {X : Cx} {pins : List (Addr × Obj)} {s : Shared} {σ : Sgm} {H : Hp} (I : Inv X pins σ H s) : ∀ {vs : List V} {us : List Value} {ds : List D}, Vals vs us → RepAll H vs ds → PySem.W.EachIs (fun u d => ∃ as, Reads s.heap u (id d) as) us ds
  | _, _, _, .nil, .nil => .nil
  | _, _, _, .cons r rr, .cons h hr => .cons (reads_of I r h) (each_reads I rr hr)
section
variable {X : Cx}
def rSortD : List V → Hp → VK → Prop := fun xs H Q => ∃ (p : Addr) (vs : List V) (ds : List D) (P : V → D → Prop), xs = [.ref p] ∧ (H p = some (.lst vs) ∨ H p = some (.tup vs)) ∧ RepAll H vs ds ∧ Paired P vs ds ∧
  PySem.W.AllAlike ds ∧ PySem.W.Sortable ds ∧ ds.length ≤ 100000 ∧ PyData.depthAll ds ≤ 150 ∧ ∀ q us, H q = none → Paired P us (sortD ds) → Q (.ref q) (upd H q (.lst us))
theorem cr_sortD (hu : X.A.units + 200 < cLine) : CallR X (.builtin "sorted") rSortD := by
  intro pins s σ H xs us Q I r h
  obtain ⟨p, vs, ds, P, rfl, hp, hr, hP, h1, h2, h3, h4, q⟩ := h
  rw [Vals.ref1 r]
  have fin : ∀ (its : List Value), Vals vs its → ∀ out, out.length = ds.length → PySem.W.EachIs (fun u d => ∃ v, RelV v u ∧ P v d) out (ds.mergeSort (PySem.W.dataLe false id)) →
      EP X pins σ Q (.ref (s.heap.objs.size + 1)) { s with heap := PyProof.Rows.sortedAll s.heap its (List.toArray out) } := fun its rv out ho eo => by
    obtain ⟨ws, rw', hw⟩ := each_back eo
    obtain ⟨ep, he⟩ := PyProof.Rows.sortedAll_at s.heap its (List.toArray out)
    have hl : ws.length ≤ sizeLine := by rw [rw'.length, ho, sizeLine_eq]; omega
    exact ⟨.ref _, upd H (s.heap.objs.size + 1) (.lst ws), I.laid (t' := s.toks) (fun _ _ => PyProof.Rows.sortedAll_old) (Nat.le_succ _) ⟨hl, out, ep, rw', he⟩, rfl, q _ ws (I.hok.fresh (Nat.le_succ _)) hw⟩
  have hal : PySem.W.AllAlike (ds.map id) := by rw [List.map_id]; exact h1
  have hk : PySem.W.Sortable (ds.map id) := by rw [List.map_id]; exact h2
  have hL : ds.length ≤ sizeLine := by rw [sizeLine_eq]; omega
  have hd : ∀ b, b ∈ ds → X.A.units + 2 + (id b : D).depth < cLine := fun b hb => by
    have := depth_le_all hb
    show X.A.units + 2 + b.depth < cLine
    omega
  rcases hp with hp | hp
  · obtain ⟨_, its, n, rv, e⟩ := I.hok _ _ hp
    exact PySem.W.sorted_data (enc := id) (R := fun u d => ∃ v, RelV v u ∧ P v d) ⟨_, e, rfl, n, rfl⟩ (each_of rv hP) (each_reads I rv hr) hal hk hL hd (fin its rv)
  · obtain ⟨_, its, rv, e⟩ := I.hok _ _ hp
    exact sorted_tupD (enc := id) (R := fun u d => ∃ v, RelV v u ∧ P v d) e (each_of rv hP) (each_reads I rv hr) hal hk hL hd (fin its rv)
abbrev GC := AS → List Ev → (Ev → Prop) → Prop
def RCS (r : List V → Hp → VK → Prop) (g : GC) : Prop := ∀ a σ F H fps xs vs, AOk a σ F H fps → ValsOk F H fps xs vs → ∀ Kz, g a xs Kz → ∀ Q : VK,
  (∀ z v' F' H', Kz z → AOk a σ F' H' fps → Le F H fps.flatten F' H' fps.flatten → ValOk F' H' fps z v' → NewOk H z v' → Q v' H') → r vs H Q
def wCB (g : GC) (wa : WA) : WE := fun a K B => wa a (fun xs a1 => g a1 xs (fun z => K z a1)) B
theorem snd_cb {E : XK} {r : List V → Hp → VK → Prop} {g : GC} {ta : TA} {wa : WA} (h : RCS r g) (ha : SndA E ta wa) : SndE E (tCB r ta) (wCB g wa) := by
  intro a K B k σ F H fps x Q q b
  refine ha a _ B k σ F H fps x _ (fun rs a1 vs F1 H1 k1 n1 x1 l1 o1 w1 => ?_) b
  exact h a1 σ F1 H1 fps rs vs x1 o1 _ k1 _ fun z v' F' H' kz x3 l3 o3 w3 => q z a1 v' F' H' kz n1 x3 (l1.trans l3) o3 (w3.back l1)
end
section
variable {X : Cx} {E : XK} {pos p : Pos} {e : Expr} {es : List Expr} {te : TE} {ta : TA} {w : WE} {wa : WA} {x : Str} {id T : String} {r : List V → Hp → VK → Prop} {g : GC}
theorem de_callB (o : CallR X (.builtin id) r ∧ RCS r g) (hg : Gl X x) (hm : X.mg x = none) (hv : bootBuiltins x = some (.builtin id)) (ha : DA X E (e :: es) ta wa) (hn : x ≠ "__name__" := by decide) (hdb : (x == ("__debug__" : Str)) = false := by decide)
    (he : starEach (e :: es) X.env = (false, eval e X.env) :: starEach es X.env := by rfl) (hpl : (backTo pos (starEach es X.env)).any (·.1) = false := by rfl) : DE X E (.Call (.Name x p) (e :: es) [] pos) (tCB r ta) (wCB g wa) :=
  ⟨pe_callB o.1 hg hm hv ha.pa hn hdb he hpl, snd_cb o.2 ha.so⟩
theorem de_callTy (o : CallR X (.type T) r ∧ RCS r g) (hg : Gl X x) (hm : X.mg x = none) (hv : bootBuiltins x = some (.type T)) (ha : DA X E (e :: es) ta wa) (hn : x ≠ "__name__" := by decide) (hdb : (x == ("__debug__" : Str)) = false := by decide)
    (he : starEach (e :: es) X.env = (false, eval e X.env) :: starEach es X.env := by rfl) (hpl : (backTo pos (starEach es X.env)).any (·.1) = false := by rfl) : DE X E (.Call (.Name x p) (e :: es) [] pos) (tCB r ta) (wCB g wa) :=
  ⟨pe_callTy o.1 hg hm hv ha.pa hn hdb he hpl, snd_cb o.2 ha.so⟩
def wNil : WA := fun a K _ => K [] a
def wCons (w : WE) (wr : WA) : WA := fun a K B => w a (fun x a1 => wr a1 (fun xs a2 => K (x :: xs) a2) B) B
theorem da_nil : DA X E [] tNil wNil := ⟨pa_nil, fun a K B k σ F H fps x Q q _ => q _ _ _ _ _ k rfl x (Le.refl _ _ _) .nil .nil⟩
theorem da_cons (ha : DE X E e te w) (hr : DA X E es ta wa) (hs : starEach (e :: es) X.env = (false, eval e X.env) :: starEach es X.env := by rfl) : DA X E (e :: es) (tCons te ta) (wCons w wa) :=
  ⟨pa_cons ha.pe hr.pa hs, by
    intro a K B k σ F H fps x Q q b
    refine ha.so a _ B k σ F H fps x _ (fun r1 a1 v1 F1 H1 k1 n1 x1 l1 o1 w1 => ?_) b
    refine hr.so a1 _ B k1 σ F1 H1 fps x1 _ (fun rs a2 vs F2 H2 k2 n2 x2 l2 o2 w2 => ?_) (by rw [n1]; exact b.le l1)
    exact q _ a2 _ F2 H2 k2 (n2.trans n1) x2 (l1.trans l2) (.cons (o1.le l2) o2) (.cons w1 (w2.backs l1) (w2.apart o1))⟩
def frz : Ev → Option D
  | .d x => some x
  | .nl xs => some (.list xs)
  | _ => none
def frzs : List Ev → Option (List D)
  | [] => some []
  | x :: xs => match frz x, frzs xs with
    | some d, some ds => some (d :: ds)
    | _, _ => none
end
def ValW (F H : Hp) (fps : List (List Addr)) : Ev → V → Prop
  | .d x, v => Rep F v x
  | .nl xs, v => ∃ p vs, v = .ref p ∧ H p = some (.lst vs) ∧ p ∉ fps.flatten ∧ RepAll F vs xs
  | .nd kvs, v => ∃ p, v = .ref p ∧ DcOk F H p kvs ∧ p ∉ fps.flatten
  | .o _, _ => True
  | .v _, _ => True
  | .er x, v => ErOk F x v
section
variable {a : AS} {σ : Sgm} {F H : Hp} {fps : List (List Addr)}
theorem ValOk.w {r : Ev} {v : V} (h : ValOk F H fps r v) : ValW F H fps r v := by
  cases r with
  | d y => exact h
  | nl xs => obtain ⟨p, vs, e, hp, _, n, r⟩ := h; exact ⟨p, vs, e, hp, n, r⟩
  | nd kvs => obtain ⟨p, e, hp, _, n⟩ := h; exact ⟨p, e, hp, n⟩
  | o k => trivial
  | v y => trivial
  | er y => exact h
theorem ValW.mono {F' : Hp} (s : Sub F F') {r : Ev} {v : V} (h : ValW F H fps r v) : ValW F' H fps r v := by
  cases r with
  | d y => exact Rep.mono s h
  | nl xs => obtain ⟨p, vs, e, hp, n, r⟩ := h; exact ⟨p, vs, e, hp, n, r.mono s⟩
  | nd kvs => obtain ⟨p, e, hp, n⟩ := h; exact ⟨p, e, hp.mono s fun _ z => z, n⟩
  | o k => trivial
  | v y => trivial
  | er y => exact ErOk.mono s h
structure Fz (a : AS) (σ : Sgm) (F H : Hp) (fps : List (List Addr)) (H0 : Hp) (F' : Hp) : Prop where
  ok : AOk a σ F' H fps
  sub : Sub F F'
  nw : ∀ b, F' b ≠ none → F b ≠ none ∨ H0 b = none
theorem Fz.refl {H0 : Hp} (x : AOk a σ F H fps) : Fz a σ F H fps H0 F := ⟨x, Sub.refl F, fun _ z => .inl z⟩
theorem Fz.trans {H0 F' F'' : Hp} (f : Fz a σ F H fps H0 F') (g : Fz a σ F' H fps H0 F'') : Fz a σ F H fps H0 F'' :=
  ⟨g.ok, f.sub.trans g.sub, fun b z => (g.nw b z).elim (f.nw b) .inr⟩
theorem Fz.le {F0 H0 F' : Hp} (f : Fz a σ F H fps H0 F') (l : Le F0 H0 fps.flatten F H fps.flatten) : Le F0 H0 fps.flatten F' H fps.flatten :=
  ⟨l.fr.trans f.sub, l.hp, fun b z => (f.nw b z).elim (l.nw b) fun z => .inr (.inl z), l.pw, l.ex⟩
theorem fz_at {H0 : Hp} (x : AOk a σ F H fps) {p : Addr} {o : HO} (h : H p = some o) (n : p ∉ fps.flatten) (h0 : H0 p = none) : ∃ F', Fz a σ F H fps H0 F' ∧ F' p = some o := by
  cases e : F p with
  | none =>
    refine ⟨upd F p o, ⟨x.freeze h e n, Sub.put e, fun b z => ?_⟩, upd_same⟩
    by_cases hb : b = p
    · subst hb; exact .inr h0
    · rw [upd_ne hb] at z; exact .inl z
  | some u =>
    refine ⟨F, .refl x, ?_⟩
    have := x.sub p u e
    rw [h] at this
    rw [e, ← this]
theorem freeze_one {H0 : Hp} (x : AOk a σ F H fps) {r : Ev} {v : V} {d : D} (h : ValW F H fps r v) (n : NewOk H0 r v) (e : frz r = some d) : ∃ F', Fz a σ F H fps H0 F' ∧ Rep F' v d := by
  cases r with
  | d y => cases e; exact ⟨F, .refl x, h⟩
  | nl xs =>
    cases e
    obtain ⟨p, vs, rfl, hp, np, r⟩ := h
    obtain ⟨F', f, g⟩ := fz_at x hp np (n p rfl)
    exact ⟨F', f, .lst g (r.mono f.sub)⟩
  | nd kvs => cases e
  | o k => cases e
  | v y => cases e
  | er y => cases e
theorem freeze_all {H0 : Hp} : ∀ {rs : List Ev} {vs : List V} {ds : List D} {F : Hp}, AOk a σ F H fps → Paired (ValW F H fps) rs vs → NewsOk H0 rs vs → frzs rs = some ds → ∃ F', Fz a σ F H fps H0 F' ∧ RepAll F' vs ds
  | [], [], ds, F, x, .nil, .nil, e => by cases e; exact ⟨F, .refl x, .nil⟩
  | r :: rs, v :: vs, ds, F, x, .cons h hr, .cons n nr _, e => by
    unfold frzs at e
    cases e1 : frz r with
    | none => rw [e1] at e; simp at e
    | some d =>
      cases e2 : frzs rs with
      | none => rw [e1, e2] at e; simp at e
      | some ds2 =>
        rw [e1, e2] at e
        cases e
        obtain ⟨F1, f1, r1⟩ := freeze_one x h n e1
        have hr1 : Paired (ValW F1 H fps) rs vs := Paired.mapP hr fun _ _ z => z.mono f1.sub
        obtain ⟨F2, f2, r2⟩ := freeze_all f1.ok hr1 nr e2
        exact ⟨F2, f1.trans f2, .cons (r1.mono f2.sub) r2⟩
end
end DL
namespace DL
open PySem PySem.Spec PyProof.Rows L2
def wTup (wa : WA) : WE := fun a K B => wa a (fun xs a1 => ∃ ds, frzs xs = some ds ∧ ds.length ≤ 100000 ∧ K (.d (.tuple ds)) a1) B
def wLst (wa : WA) : WE := fun a K B => wa a (fun xs a1 => ∃ ds, frzs xs = some ds ∧ ds.length ≤ 100000 ∧ K (.nl ds) a1) B
theorem le_line {n : Nat} (h : n ≤ 100000) : n ≤ sizeLine := by rw [sizeLine_eq]; omega
section
variable {a : AS} {σ : Sgm} {F H : Hp} {fps : List (List Addr)}
theorem AOk.fresh (x : AOk a σ F H fps) {q : Addr} (h : H q = none) : q ∉ fps.flatten := fun m => by
  obtain ⟨o, ho⟩ := x.there q m
  rw [h] at ho; cases ho
theorem valsW {rs : List Ev} {vs : List V} (h : ValsOk F H fps rs vs) : Paired (ValW F H fps) rs vs := Paired.mapP h fun _ _ z => z.w
end
section
variable {X : Cx} {E : XK} {pos : Pos} {es : List Expr} {ta : TA} {wa : WA}
theorem de_tup {k} (h : DA X E es ta wa) : DE X E (.Tuple es k pos) (tTup ta) (wTup wa) := ⟨pe_tup h.pa, by
  intro a K B k σ F H fps x Q q b
  refine h.so a _ B k σ F H fps x _ (fun rs a1 vs F1 H1 ⟨ds, e1, hz, k1⟩ n1 x1 l1 o1 w1 => ?_) b
  obtain ⟨F2, f, r⟩ := freeze_all (H0 := H) x1 (valsW o1) w1 e1
  refine ⟨by rw [r.length]; exact le_line hz, fun p hp => ?_⟩
  exact q _ a1 _ _ _ k1 n1 (f.ok.newF hp) ((f.le l1).trans (Le.newF f.ok.sub hp)) (.tup upd_same (r.mono (Sub.put (f.ok.sub.gone hp)))) trivial⟩
theorem de_lst (h : DA X E es ta wa) : DE X E (.List es pos) (tLst ta) (wLst wa) := ⟨pe_lst h.pa, by
  intro a K B k σ F H fps x Q q b
  refine h.so a _ B k σ F H fps x _ (fun rs a1 vs F1 H1 ⟨ds, e1, hz, k1⟩ n1 x1 l1 o1 w1 => ?_) b
  obtain ⟨F2, f, r⟩ := freeze_all (H0 := H) x1 (valsW o1) w1 e1
  refine ⟨by rw [r.length]; exact le_line hz, fun p hp => ?_⟩
  exact q _ a1 _ _ _ k1 n1 (f.ok.newH hp) ((f.le l1).trans (Le.newH hp)) ⟨p, _, rfl, upd_same, f.ok.sub.gone hp, f.ok.fresh hp, r⟩ fun p' e' => by cases e'; exact l1.ex _ hp⟩
end
theorem vals_one {F H : Hp} {fps : List (List Addr)} {x : Ev} {vs : List V} (h : ValsOk F H fps [x] vs) : ∃ v, vs = [v] ∧ ValOk F H fps x v := by
  cases h with
  | cons h r => cases r; exact ⟨_, rfl, h⟩
theorem vals_two {F H : Hp} {fps : List (List Addr)} {x y : Ev} {vs : List V} (h : ValsOk F H fps [x, y] vs) : ∃ v u, vs = [v, u] ∧ ValOk F H fps x v ∧ ValOk F H fps y u := by
  cases h with
  | cons h r =>
    cases r with
    | cons h2 r => cases r; exact ⟨_, _, rfl, h, h2⟩
section
variable {X : Cx}
def rIsa (T : String) (f : D → Bool) : List V → Hp → VK → Prop := fun xs H Q => ∃ x d, xs = [x, .ty T] ∧ Rep H x d ∧ Q (.bl (f d)) H
def gIsa (T : String) (f : D → Bool) : GC := fun a xs K => ∃ x d, xs = [x, .v (.ty T)] ∧ vw a x = some d ∧ K (.d (.bool (f d)))
theorem rcs_isa {T : String} {f : D → Bool} : RCS (rIsa T f) (gIsa T f) := by
  intro a σ F H fps xs vs ok hv Kz k Q q
  obtain ⟨x, d, rfl, e, k⟩ := k
  obtain ⟨v, u, rfl, h1, h2⟩ := vals_two hv
  have e2 : u = .ty T := h2
  subst e2
  exact ⟨v, d, rfl, vw_rep ok h1 e, q _ _ F H k ok (Le.refl _ _ _) (.bl _) trivial⟩
theorem cr_isa {T : String} {f : D → Bool} (rule : ∀ {prog : Program} {w : World} {A : Around} {E : Value → Shared → Prop} {s : Shared} {v : Value} {d : PyData} {as : List Addr} {Q : Value → Shared → Prop},
    Reads s.heap v d as → (∀ tk, s.toks ≤ tk → Q (.bool (f d)) { s with toks := tk }) → wpAny (model prog w) A (call (.builtin "isinstance") [v, .type T]) Q E s) : CallR X (.builtin "isinstance") (rIsa T f) := by
  intro pins s σ H xs us Q I r h
  obtain ⟨x, d, rfl, rx, q⟩ := h
  obtain ⟨u, w', rfl, r1, r2⟩ := vals2 r
  have e : w' = .type T := r2
  subst e
  obtain ⟨as, ra⟩ := reads_of I r1 rx
  exact rule ra fun tk _ => ⟨.bl _, H, I.tok tk, rfl, q⟩
theorem d_isaI : CallR X (.builtin "isinstance") (rIsa "int" PyData.isInt) ∧ RCS (rIsa "int" PyData.isInt) (gIsa "int" PyData.isInt) := ⟨cr_isa fun r h => PySem.W.isinstance_int_data r h, rcs_isa⟩
theorem d_isaB : CallR X (.builtin "isinstance") (rIsa "bool" PyData.isBool) ∧ RCS (rIsa "bool" PyData.isBool) (gIsa "bool" PyData.isBool) := ⟨cr_isa fun r h => PySem.W.isinstance_bool_data r h, rcs_isa⟩
theorem d_isaT : CallR X (.builtin "isinstance") (rIsa "tuple" PyData.isTuple) ∧ RCS (rIsa "tuple" PyData.isTuple) (gIsa "tuple" PyData.isTuple) := ⟨cr_isa fun r h => PySem.W.isinstance_tuple_data r h, rcs_isa⟩
theorem d_isaL : CallR X (.builtin "isinstance") (rIsa "list" PyData.isList) ∧ RCS (rIsa "list" PyData.isList) (gIsa "list" PyData.isList) := ⟨cr_isa fun r h => PySem.W.isinstance_list_data r h, rcs_isa⟩
theorem d_isaD : CallR X (.builtin "isinstance") (rIsa "dict" PyData.isDict) ∧ RCS (rIsa "dict" PyData.isDict) (gIsa "dict" PyData.isDict) := ⟨cr_isa fun r h => PySem.W.isinstance_dict_data r h, rcs_isa⟩
theorem d_isaS : CallR X (.builtin "isinstance") (rIsa "str" PyData.isStr) ∧ RCS (rIsa "str" PyData.isStr) (gIsa "str" PyData.isStr) := ⟨cr_isa fun r h => PySem.W.isinstance_str_data r h, rcs_isa⟩
theorem vw_items {a : AS} {σ : Sgm} {F H : Hp} {fps : List (List Addr)} (ok : AOk a σ F H fps) {r : Ev} {v : V} {d : D} {ds : List D} (h : ValOk F H fps r v) (e : vw a r = some d) (i : itemsD d = some ds) :
    ∃ p vs, v = .ref p ∧ (H p = some (.lst vs) ∨ H p = some (.tup vs)) ∧ RepAll F vs ds := by
  cases d with
  | list xs => cases i; obtain ⟨p, vs, e1, e2, r⟩ := vw_list ok h e; exact ⟨p, vs, e1, .inl e2, r⟩
  | tuple xs => cases i; obtain ⟨p, vs, e1, _, e2, r⟩ := vw_tup ok h e; exact ⟨p, vs, e1, .inr e2, r⟩
  | _ => cases i
def rLenS : List V → Hp → VK → Prop := fun xs H Q => ∃ p vs, xs = [.ref p] ∧ (H p = some (.lst vs) ∨ H p = some (.tup vs)) ∧ Q (.int vs.length) H
def gLen : GC := fun a xs K => ∃ x d ds, xs = [x] ∧ vw a x = some d ∧ itemsD d = some ds ∧ K (.d (.int ds.length))
theorem d_len : CallR X (.builtin "len") rLenS ∧ RCS rLenS gLen := ⟨by
  intro pins s σ H xs us Q I r h
  obtain ⟨p, vs, rfl, hp, q⟩ := h
  exact call_len_seq pins s σ H _ us Q I r ⟨p, vs, rfl, hp.elim (fun z => .inl (SqL.of z)) fun z => .inr (SqT.of z), q⟩, by
  intro a σ F H fps xs vs ok hv Kz k Q q
  obtain ⟨x, d, ds, rfl, e, i, k⟩ := k
  obtain ⟨v, rfl, h⟩ := vals_one hv
  obtain ⟨p, us, rfl, hp, r⟩ := vw_items ok h e i
  refine ⟨p, us, rfl, hp, ?_⟩
  rw [r.length]
  exact q _ _ F H k ok (Le.refl _ _ _) (.int _) trivial⟩
def rListS : List V → Hp → VK → Prop := fun xs H Q => ∃ p vs, xs = [.ref p] ∧ (H p = some (.lst vs) ∨ H p = some (.tup vs)) ∧ ∀ l, H l = none → Q (.ref l) (upd H l (.lst vs))
def gList : GC := fun a xs K => ∃ x d ds, xs = [x] ∧ vw a x = some d ∧ itemsD d = some ds ∧ K (.nl ds)
theorem d_list : CallR X (.type "list") rListS ∧ RCS rListS gList := ⟨by
  intro pins s σ H xs us Q I r h
  obtain ⟨p, vs, rfl, hp, q⟩ := h
  exact call_list_of pins s σ H _ us Q I r ⟨p, vs, rfl, hp.elim (fun z => .inl (SqL.of z)) fun z => .inr (SqT.of z), q⟩, by
  intro a σ F H fps xs vs ok hv Kz k Q q
  obtain ⟨x, d, ds, rfl, e, i, k⟩ := k
  obtain ⟨v, rfl, h⟩ := vals_one hv
  obtain ⟨p, us, rfl, hp, r⟩ := vw_items ok h e i
  refine ⟨p, us, rfl, hp, fun l hl => ?_⟩
  exact q _ _ _ _ k (ok.newH hl) (Le.newH hl) ⟨l, us, rfl, upd_same, ok.sub.gone hl, ok.fresh hl, r⟩ fun p' e' => by cases e'; exact hl⟩
def rTupS : List V → Hp → VK → Prop := fun xs H Q => ∃ p vs, xs = [.ref p] ∧ ((H p = some (.lst vs) ∧ ∀ l, H l = none → Q (.ref l) (upd H l (.tup vs))) ∨ (H p = some (.tup vs) ∧ Q (.ref p) H))
def gTupC : GC := fun a xs K => ∃ x d ds, xs = [x] ∧ vw a x = some d ∧ itemsD d = some ds ∧ K (.d (.tuple ds))
theorem d_tup : CallR X (.type "tuple") rTupS ∧ RCS rTupS gTupC := ⟨by
  intro pins s σ H xs us Q I r h
  obtain ⟨p, vs, rfl, hp⟩ := h
  exact call_tuple_of pins s σ H _ us Q I r ⟨p, vs, rfl, hp.elim (fun z => .inl ⟨SqL.of z.1, z.2⟩) fun z => .inr ⟨SqT.of z.1, z.2⟩⟩, by
  intro a σ F H fps xs vs ok hv Kz k Q q
  obtain ⟨x, d, ds, rfl, e, i, k⟩ := k
  obtain ⟨v, rfl, h⟩ := vals_one hv
  cases d with
  | list xs =>
    cases i
    obtain ⟨p, us, rfl, hp, r⟩ := vw_list ok h e
    refine ⟨p, us, rfl, .inl ⟨hp, fun l hl => ?_⟩⟩
    exact q _ _ _ _ k (ok.newF hl) (Le.newF ok.sub hl) (.tup upd_same (r.mono (Sub.put (ok.sub.gone hl)))) trivial
  | tuple xs =>
    cases i
    obtain ⟨p, us, rfl, fp, hp, r⟩ := vw_tup ok h e
    exact ⟨p, us, rfl, .inr ⟨hp, q _ _ F H k ok (Le.refl _ _ _) (.tup fp r) trivial⟩⟩
  | _ => cases i⟩
def gSort : GC := fun a xs K => ∃ x d ds, xs = [x] ∧ vw a x = some d ∧ itemsD d = some ds ∧ PySem.W.AllAlike ds ∧ PySem.W.Sortable ds ∧ ds.length ≤ 100000 ∧ PyData.depthAll ds ≤ 150 ∧ K (.nl (sortD ds))
theorem d_sorted (hu : X.A.units + 200 < cLine) : CallR X (.builtin "sorted") rSortD ∧ RCS rSortD gSort := ⟨cr_sortD hu, by
  intro a σ F H fps xs vs ok hv Kz k Q q
  obtain ⟨x, d, ds, rfl, e, i, h1, h2, h3, h4, k⟩ := k
  obtain ⟨v, rfl, h⟩ := vals_one hv
  obtain ⟨p, us, rfl, hp, r⟩ := vw_items ok h e i
  refine ⟨p, us, ds, fun v d => Rep F v d, rfl, hp, r.mono ok.sub, repAll_paired r, h1, h2, h3, h4, fun l ws hl hw => ?_⟩
  exact q _ _ _ _ k (ok.newH hl) (Le.newH hl) ⟨l, ws, rfl, upd_same, ok.sub.gone hl, ok.fresh hl, paired_repAll hw⟩ fun p' e' => by cases e'; exact hl⟩
def rI1 (f : Int → Int) : List V → Hp → VK → Prop := fun xs H Q => ∃ i, xs = [.int i] ∧ Q (.int (f i)) H
def gI1 (f : Int → Int) : GC := fun a xs K => ∃ x i, xs = [x] ∧ vw a x = some (.int i) ∧ K (.d (.int (f i)))
theorem rcs_I1 {f : Int → Int} : RCS (rI1 f) (gI1 f) := by
  intro a σ F H fps xs vs ok hv Kz k Q q
  obtain ⟨x, i, rfl, e, k⟩ := k
  obtain ⟨v, rfl, h⟩ := vals_one hv
  exact ⟨i, by rw [vw_int ok h e], q _ _ F H k ok (Le.refl _ _ _) (.int _) trivial⟩
theorem d_abs : CallR X (.builtin "abs") (rI1 fun i => if i < 0 then -i else i) ∧ RCS (rI1 fun i => if i < 0 then -i else i) (gI1 fun i => if i < 0 then -i else i) := ⟨call_abs, rcs_I1⟩
theorem d_int : CallR X (.type "int") (rI1 fun i => i) ∧ RCS (rI1 fun i => i) (gI1 fun i => i) := ⟨by
  intro pins s σ H xs us Q I r h
  obtain ⟨i, e, q⟩ := h
  exact call_int1 pins s σ H xs us Q I r (.inl ⟨i, e, q⟩), rcs_I1⟩
def rI2 (f : Int → Int → Int) : List V → Hp → VK → Prop := fun xs H Q => ∃ i j, xs = [.int i, .int j] ∧ Q (.int (f i j)) H
def gI2 (f : Int → Int → Int) : GC := fun a xs K => ∃ x y i j, xs = [x, y] ∧ vw a x = some (.int i) ∧ vw a y = some (.int j) ∧ K (.d (.int (f i j)))
theorem rcs_I2 {f : Int → Int → Int} : RCS (rI2 f) (gI2 f) := by
  intro a σ F H fps xs vs ok hv Kz k Q q
  obtain ⟨x, y, i, j, rfl, e, e2, k⟩ := k
  obtain ⟨v, u, rfl, h, h2⟩ := vals_two hv
  exact ⟨i, j, by rw [vw_int ok h e, vw_int ok h2 e2], q _ _ F H k ok (Le.refl _ _ _) (.int _) trivial⟩
theorem d_min2 (hc : X.calm = true) : CallR X (.builtin "min") (rI2 fun i j => if j < i then j else i) ∧ RCS (rI2 fun i j => if j < i then j else i) (gI2 fun i j => if j < i then j else i) := ⟨call_min2 hc, rcs_I2⟩
theorem d_max2 (hc : X.calm = true) : CallR X (.builtin "max") (rI2 fun i j => if j > i then j else i) ∧ RCS (rI2 fun i j => if j > i then j else i) (gI2 fun i j => if j > i then j else i) := ⟨call_max2 hc, rcs_I2⟩
end
section
variable {X : Cx} {E : XK} {pos p2 : Pos} {ea eb : Expr} {ta tb : TE} {wa wb : WE}
def rIxS2 : R2 := fun x y H Q => ∃ p vs i v, x = .ref p ∧ y = .int i ∧ (H p = some (.lst vs) ∨ H p = some (.tup vs)) ∧ atI vs i = some v ∧ Q v H
def gIx : G2 := fun a x y K => ∃ d ds i z, vw a x = some d ∧ itemsD d = some ds ∧ vw a y = some (.int i) ∧ atI ds i = some z ∧ K (.d z)
theorem atI_rep {F : Hp} {vs : List V} {ds : List D} (r : RepAll F vs ds) {i : Int} {z : D} (h : atI ds i = some z) : ∃ v, atI vs i = some v ∧ Rep F v z := by
  unfold atI at h ⊢
  rw [r.length]
  cases e : ixN ds.length i with
  | none => rw [e] at h; cases h
  | some j =>
    rw [e] at h
    obtain ⟨v, e1, e2⟩ := r.get' (show ds[j]? = some z from h)
    exact ⟨v, e1, e2⟩
theorem d_ix : IxR X rIxS2 ∧ R2S rIxS2 gIx := ⟨by
  intro va sl pins s σ H x y v u Q I rx ry h hs
  obtain ⟨p, vs, i, z, e1, e2, hp, ha, q⟩ := h
  rcases hp with hp | hp
  · exact ix_list va sl pins s σ H x y v u Q I rx ry ⟨p, vs, i, z, e1, e2, SqL.of hp, ha, q⟩ hs
  · exact ix_tup va sl pins s σ H x y v u Q I rx ry ⟨p, vs, i, z, e1, e2, SqT.of hp, ha, q⟩ hs, by
  intro a σ F H fps x y v u ok hx hy Kz k Q q
  obtain ⟨d, ds, i, z, e, it, ei, ha, k⟩ := k
  obtain ⟨p, vs, rfl, hp, r⟩ := vw_items ok hx e it
  obtain ⟨w', e1, e2⟩ := atI_rep r ha
  exact ⟨p, vs, i, w', rfl, vw_int ok hy ei, hp, e1, q _ _ F H k ok (Le.refl _ _ _) e2 trivial⟩⟩
theorem de_ix {r : R2} {g : G2} (o : IxR X r ∧ R2S r g) (ha : DE X E ea ta wa) (hb : DE X E eb tb wb) (hs : PlainIx eb) : DE X E (.Subscript ea eb pos) (tOp r ta tb) (wOp2 g wa wb) :=
  ⟨pe_ix o.1 ha.pe hb.pe hs, snd_op2 o.2 ha.so hb.so⟩
abbrev WO := AS → (Option Int → AS → Prop) → (XD → AS → Prop) → Prop
def SndO (E : XK) (to : TO) (w : WO) : Prop :=
  ∀ a K B, w a K B → ∀ σ F H fps, AOk a σ F H fps → ∀ Q : Option Int → Hp → Prop,
    (∀ o a' F' H', K o a' → a'.n = a.n → AOk a' σ F' H' fps → Le F H fps.flatten F' H' fps.flatten → Q o H') → BOk E B a.n σ F H fps → to σ H Q
structure DO (X : Cx) (E : XK) (e : Option Expr) (to : TO) (w : WO) : Prop where
  po : PO X e to
  so : SndO E to w
def wNoPart : WO := fun a K _ => K none a
def wPart (w : WE) : WO := fun a K B => w a (fun r a1 => ∃ i, vw a1 r = some (.int i) ∧ K (some i) a1) B
theorem do_none : DO X E none tNoPart wNoPart := ⟨po_none, fun a K B k σ F H fps x Q q _ => q _ _ _ _ k rfl x (Le.refl _ _ _)⟩
theorem do_some {e : Expr} {te : TE} {w : WE} (h : DE X E e te w) : DO X E (some e) (tPart te) (wPart w) := ⟨po_some h.pe, by
  intro a K B k σ F H fps x Q q b
  refine h.so a _ B k σ F H fps x _ (fun r1 a1 v1 F1 H1 ⟨i, e1, k1⟩ n1 x1 l1 o1 w1 => ?_) b
  exact ⟨i, vw_int x1 o1 e1, q _ a1 F1 H1 k1 n1 x1 l1⟩⟩
def cutD (xs : List D) (lo hi : Option Int) : List D := (xs.drop (HT.sIx xs.length 0 lo)).take (HT.sIx xs.length xs.length hi - HT.sIx xs.length 0 lo)
theorem cut_rep {F : Hp} {vs : List V} {ds : List D} (r : RepAll F vs ds) (lo hi : Option Int) : RepAll F (cutV vs lo hi) (cutD ds lo hi) := by
  unfold cutV cutD
  rw [r.length]
  exact (r.drop _).take _
def rSlD (K : PySem.W.Frag) : V → Option Int → Option Int → Hp → VK → Prop := fun x lo hi H Q => rSlL K x lo hi H Q ∨ rSlA K x lo hi H Q
def wSl (we : WE) (wl wh : WO) : WE := fun a K B => we a (fun x a1 => wl a1 (fun lo a2 => wh a2 (fun hi a3 => ∃ d ds, vw a3 x = some d ∧
  ((d = .list ds ∧ K (.nl (cutD ds lo hi)) a3) ∨ (d = .tuple ds ∧ K (.d (.tuple (cutD ds lo hi))) a3))) B) B) B
theorem cut_whole (xs : List V) (lo hi : Option Int) (h : HT.sIx xs.length 0 lo = 0 ∧ HT.sIx xs.length xs.length hi = xs.length) : cutV xs lo hi = xs := by
  unfold cutV
  rw [h.1, h.2]
  simp
theorem de_slice {el eh : Option Expr} {tl th : TO} {wl wh : WO} (ha : DE X E ea ta wa) (hl : DO X E el tl wl) (hh : DO X E eh th wh) :
    DE X E (.Subscript ea (.Slice el eh none p2) pos) (tSl (rSlD X.K) ta tl th) (wSl wa wl wh) := ⟨pe_slice (sl_list.or sl_tupA) ha.pe hl.po hh.po, by
  intro a K B k σ F H fps x Q q b
  refine ha.so a _ B k σ F H fps x _ (fun r1 a1 v1 F1 H1 k1 n1 x1 l1 o1 w1 => ?_) b
  refine hl.so a1 _ B k1 σ F1 H1 fps x1 _ (fun lo a2 F2 H2 k2 n2 x2 l2 => ?_) (by rw [n1]; exact b.le l1)
  refine hh.so a2 _ B k2 σ F2 H2 fps x2 _ (fun hi a3 F3 H3 k3 n3 x3 l3 => ?_) (by rw [n2, n1]; exact b.le (l1.trans l2))
  obtain ⟨d, ds, e, k3⟩ := k3
  have o3 := o1.le (l2.trans l3)
  have l13 := (l1.trans l2).trans l3
  rcases k3 with ⟨rfl, k3⟩ | ⟨rfl, k3⟩
  · obtain ⟨p, us, rfl, hp, r⟩ := vw_list x3 o3 e
    refine .inl ⟨p, us, rfl, SqL.of hp, fun l hl => ?_⟩
    exact q _ a3 _ _ _ k3 (n3.trans (n2.trans n1)) (x3.newH hl) (l13.trans (Le.newH hl)) ⟨l, _, rfl, upd_same, x3.sub.gone hl, x3.fresh hl, cut_rep r lo hi⟩ fun p' e' => by cases e'; exact l13.ex _ hl
  · obtain ⟨p, us, rfl, fp, hp, r⟩ := vw_tup x3 o3 e
    refine .inr ⟨p, us, rfl, SqT.of hp, fun hw => ?_, fun _ l hl => ?_⟩
    · have r2 := cut_rep r lo hi
      rw [cut_whole us lo hi hw] at r2
      exact q _ a3 _ F3 H3 k3 (n3.trans (n2.trans n1)) x3 l13 (.tup fp r2) trivial
    · exact q _ a3 _ _ _ k3 (n3.trans (n2.trans n1)) (x3.newF hl) (l13.trans (Le.newF x3.sub hl)) (.tup upd_same ((cut_rep r lo hi).mono (Sub.put (x3.sub.gone hl)))) trivial⟩
end
end DL
namespace DL
open PySem PySem.Spec PyProof.Rows L2
section
variable {X : Cx} {E : XK} {pos : Pos} {ea eb ec : Expr} {rest : List Expr} {te ta tb : TE} {tA tB' : TT} {w wa wb : WE} {wA wB : WT}
theorem snd_tB (h : SndE E te w) : SndT E (tB te) (wTst w) := by
  intro a K B k σ F H fps x Q q b
  refine h a _ B k σ F H fps x _ (fun r1 a1 v1 F1 H1 ⟨c, e1, k1⟩ n1 x1 l1 o1 w1 => ?_) b
  exact ⟨c, vw_bl x1 o1 e1, q c a1 F1 H1 k1 n1 x1 l1⟩
theorem dt_val (h : DE X E ea te w) (he : ∀ whole, isTrue ea X.env whole = (do let v ← whole; standAt ea.pos; holding [v] (truthy v)) := by intro _; rfl) : DT X E ea (tB te) (wTst w) := ⟨pt_val h.pe he, snd_tB h.so⟩
def wAndT (wa wb : WT) : WT := fun a K B => wa a (fun c a1 => (c = true → wb a1 K B) ∧ (c = false → K false a1)) B
def wOrT (wa wb : WT) : WT := fun a K B => wa a (fun c a1 => (c = true → K true a1) ∧ (c = false → wb a1 K B)) B
def wNotT (wa : WT) : WT := fun a K B => wa a (fun c a1 => K (!c) a1) B
theorem dw_and1 (h : DT X E ea tA wA) : DW X E (.BoolOp .And [ea] pos) tA wA := ⟨pw_and1 h.pt, h.so⟩
theorem dw_or1 (h : DT X E ea tA wA) : DW X E (.BoolOp .Or [ea] pos) tA wA := ⟨pw_or1 h.pt, h.so⟩
theorem dw_and (h : DT X E ea tA wA) (h2 : DW X E (.BoolOp .And (eb :: rest) pos) tB' wB) : DW X E (.BoolOp .And (ea :: eb :: rest) pos) (tAnd tA tB') (wAndT wA wB) := ⟨pw_and h.pt h2.pw, by
  intro a K B k σ F H fps x Q q b
  refine h.so a _ B k σ F H fps x _ (fun c a1 F1 H1 k1 n1 x1 l1 => ?_) b
  cases c with
  | true => exact h2.so a1 K B (k1.1 rfl) σ F1 H1 fps x1 _ (fun d a2 F2 H2 k2 n2 x2 l2 => q d a2 F2 H2 k2 (n2.trans n1) x2 (l1.trans l2)) (by rw [n1]; exact b.le l1)
  | false => exact q false a1 F1 H1 (k1.2 rfl) n1 x1 l1⟩
theorem dw_or (h : DT X E ea tA wA) (h2 : DW X E (.BoolOp .Or (eb :: rest) pos) tB' wB) : DW X E (.BoolOp .Or (ea :: eb :: rest) pos) (tOr tA tB') (wOrT wA wB) := ⟨pw_or h.pt h2.pw, by
  intro a K B k σ F H fps x Q q b
  refine h.so a _ B k σ F H fps x _ (fun c a1 F1 H1 k1 n1 x1 l1 => ?_) b
  cases c with
  | false => exact h2.so a1 K B (k1.2 rfl) σ F1 H1 fps x1 _ (fun d a2 F2 H2 k2 n2 x2 l2 => q d a2 F2 H2 k2 (n2.trans n1) x2 (l1.trans l2)) (by rw [n1]; exact b.le l1)
  | true => exact q true a1 F1 H1 (k1.1 rfl) n1 x1 l1⟩
theorem DW.dt (h : DW X E ea tA wA) : DT X E ea tA wA := ⟨h.pw.pt, h.so⟩
theorem dt_not (h : DT X E ea tA wA) : DT X E (.UnaryOp .Not ea pos) (tNot tA) (wNotT wA) := ⟨pt_not h.pt, by
  intro a K B k σ F H fps x Q q b
  exact h.so a _ B k σ F H fps x _ (fun c a1 F1 H1 k1 n1 x1 l1 => q (!c) a1 F1 H1 k1 n1 x1 l1) b⟩
def wAndV (wa wb : WE) : WE := fun a K B => wa a (fun r a1 => ∃ c, vw a1 r = some (.bool c) ∧ (c = true → wb a1 K B) ∧ (c = false → K (.d (.bool false)) a1)) B
def wOrV (wa wb : WE) : WE := fun a K B => wa a (fun r a1 => ∃ c, vw a1 r = some (.bool c) ∧ (c = true → K (.d (.bool true)) a1) ∧ (c = false → wb a1 K B)) B
def wNotV (wa : WE) : WE := fun a K B => wa a (fun r a1 => ∃ c, vw a1 r = some (.bool c) ∧ K (.d (.bool (!c))) a1) B
theorem de_one {op} (h : DE X E ea ta wa) : DE X E (.BoolOp op [ea] pos) ta wa := ⟨pe_one h.pe, h.so⟩
theorem de_and (h : DE X E ea ta wa) (h2 : DE X E (.BoolOp .And (eb :: rest) pos) tb wb) : DE X E (.BoolOp .And (ea :: eb :: rest) pos) (tAndV ta tb) (wAndV wa wb) := ⟨pe_and h.pe h2.pe, by
  intro a K B k σ F H fps x Q q b
  refine h.so a _ B k σ F H fps x _ (fun r1 a1 v1 F1 H1 ⟨c, e1, k1⟩ n1 x1 l1 o1 w1 => ?_) b
  refine ⟨c, vw_bl x1 o1 e1, ?_⟩
  cases c with
  | true => exact h2.so a1 K B (k1.1 rfl) σ F1 H1 fps x1 _ (fun d a2 v2 F2 H2 k2 n2 x2 l2 o2 w2 => q d a2 v2 F2 H2 k2 (n2.trans n1) x2 (l1.trans l2) o2 (w2.back l1)) (by rw [n1]; exact b.le l1)
  | false => exact q _ a1 _ F1 H1 (k1.2 rfl) n1 x1 l1 (.bl false) trivial⟩
theorem de_or (h : DE X E ea ta wa) (h2 : DE X E (.BoolOp .Or (eb :: rest) pos) tb wb) : DE X E (.BoolOp .Or (ea :: eb :: rest) pos) (tOrV ta tb) (wOrV wa wb) := ⟨pe_or h.pe h2.pe, by
  intro a K B k σ F H fps x Q q b
  refine h.so a _ B k σ F H fps x _ (fun r1 a1 v1 F1 H1 ⟨c, e1, k1⟩ n1 x1 l1 o1 w1 => ?_) b
  refine ⟨c, vw_bl x1 o1 e1, ?_⟩
  cases c with
  | false => exact h2.so a1 K B (k1.2 rfl) σ F1 H1 fps x1 _ (fun d a2 v2 F2 H2 k2 n2 x2 l2 o2 w2 => q d a2 v2 F2 H2 k2 (n2.trans n1) x2 (l1.trans l2) o2 (w2.back l1)) (by rw [n1]; exact b.le l1)
  | true => exact q _ a1 _ F1 H1 (k1.1 rfl) n1 x1 l1 (.bl true) trivial⟩
theorem de_not (h : DE X E ea ta wa) : DE X E (.UnaryOp .Not ea pos) (tNotV ta) (wNotV wa) := ⟨pe_not h.pe, by
  intro a K B k σ F H fps x Q q b
  refine h.so a _ B k σ F H fps x _ (fun r1 a1 v1 F1 H1 ⟨c, e1, k1⟩ n1 x1 l1 o1 w1 => ?_) b
  exact ⟨c, vw_bl x1 o1 e1, q _ a1 _ F1 H1 k1 n1 x1 l1 (.bl _) trivial⟩⟩
def wIfE (wt : WT) (wa wb : WE) : WE := fun a K B => wt a (fun c a1 => (c = true → wa a1 K B) ∧ (c = false → wb a1 K B)) B
theorem de_if (ht : DT X E ec tA wA) (h : DE X E ea ta wa) (h2 : DE X E eb tb wb) : DE X E (.IfExp ec ea eb pos) (tIf tA ta tb) (wIfE wA wa wb) := ⟨pe_ifExp ht.pt h.pe h2.pe, by
  intro a K B k σ F H fps x Q q b
  refine ht.so a _ B k σ F H fps x _ (fun c a1 F1 H1 k1 n1 x1 l1 => ?_) b
  cases c with
  | true => exact h.so a1 K B (k1.1 rfl) σ F1 H1 fps x1 _ (fun d a2 v2 F2 H2 k2 n2 x2 l2 o2 w2 => q d a2 v2 F2 H2 k2 (n2.trans n1) x2 (l1.trans l2) o2 (w2.back l1)) (by rw [n1]; exact b.le l1)
  | false => exact h2.so a1 K B (k1.2 rfl) σ F1 H1 fps x1 _ (fun d a2 v2 F2 H2 k2 n2 x2 l2 o2 w2 => q d a2 v2 F2 H2 k2 (n2.trans n1) x2 (l1.trans l2) o2 (w2.back l1)) (by rw [n1]; exact b.le l1)⟩
end
section
variable {a : AS} {σ : Sgm} {F H : Hp} {fps : List (List Addr)}
theorem AOk.setSlot (x : AOk a σ F H fps) {i : Nat} {s : Sl} {v : V} (h : SlOk F fps s (some v)) : AOk { a with sl := a.sl.set i s } (σ.set i (some v)) F H fps where
  sub := x.sub
  nd := x.nd
  len := x.len
  own := x.own
  nf := x.nf
  ln := by rw [List.length_set, List.length_set]; exact x.ln
  sl := fun j s' e => by
    have e' : (a.sl.set i s)[j]? = some s' := e
    by_cases hj : i = j
    · subst hj
      have hl : i < a.sl.length := by
        have := (List.getElem?_eq_some_iff.mp e').1
        rw [List.length_set] at this; exact this
      rw [List.getElem?_set_self hl] at e'
      cases e'
      rw [List.getElem?_set_self (by rw [x.ln]; exact hl)]
      exact h
    · rw [List.getElem?_set_ne hj] at e'
      rw [List.getElem?_set_ne hj]
      exact x.sl j s' e'
  nn := x.nn
  tp := x.tp
theorem AOk.unSlot (x : AOk a σ F H fps) {i : Nat} (r : Option V) : AOk { a with sl := a.sl.set i .un } (σ.set i r) F H fps where
  sub := x.sub
  nd := x.nd
  len := x.len
  own := x.own
  nf := x.nf
  ln := by rw [List.length_set, List.length_set]; exact x.ln
  sl := fun j s' e => by
    have e' : (a.sl.set i Sl.un)[j]? = some s' := e
    by_cases hj : i = j
    · subst hj
      have hl : i < a.sl.length := by
        have := (List.getElem?_eq_some_iff.mp e').1
        rw [List.length_set] at this; exact this
      rw [List.getElem?_set_self hl] at e'
      cases e'
      trivial
    · rw [List.getElem?_set_ne hj] at e'
      rw [List.getElem?_set_ne hj]
      exact x.sl j s' e'
  nn := x.nn
  tp := x.tp
theorem AOk.addCell (x : AOk a σ F H fps) {p : Addr} {c : Own} (h : OwnOk F H [p] c) (hf : F p = none) (hn : p ∉ fps.flatten) : AOk { a with ow := a.ow ++ [c] } σ F H (fps ++ [[p]]) where
  sub := x.sub
  nd := by
    rw [List.flatten_append]
    simp only [List.flatten_cons, List.flatten_nil, List.append_nil]
    refine List.nodup_append.mpr ⟨x.nd, by simp, fun q hq r hr => ?_⟩
    simp at hr
    subst hr
    exact fun e => hn (e ▸ hq)
  len := by rw [List.length_append, List.length_append, x.len]; rfl
  own := fun k fp c' e1 e2 => by
    have e2' : (a.ow ++ [c])[k]? = some c' := e2
    by_cases hk : k < fps.length
    · rw [List.getElem?_append_left hk] at e1
      rw [List.getElem?_append_left (by rw [← x.len]; exact hk)] at e2'
      exact x.own k fp c' e1 e2'
    · have hl : k < (fps ++ [[p]]).length := (List.getElem?_eq_some_iff.mp e1).1
      have hk2 : k = fps.length := by rw [List.length_append] at hl; simp at hl; omega
      subst hk2
      rw [List.getElem?_append_right (Nat.le_refl _)] at e1
      rw [List.getElem?_append_right (by rw [x.len]; exact Nat.le_refl _)] at e2'
      simp [x.len] at e1 e2'
      subst e1 e2'
      exact h
  nf := fun q hq => by
    rw [List.flatten_append] at hq
    simp at hq
    rcases hq with ⟨l, hl, hm⟩ | rfl
    · exact x.nf q (List.mem_flatten.mpr ⟨l, hl, hm⟩)
    · exact hf
  ln := x.ln
  sl := fun i s e => by
    have z := x.sl i s e
    cases s with
    | un => trivial
    | d y => exact z
    | v y => exact z
    | sc _ _ => exact z
    | er _ => exact z
    | px _ => exact z
    | o k =>
      obtain ⟨q, ps, e1, e2⟩ := z
      exact ⟨q, ps, e1, by rw [List.getElem?_append_left (List.getElem?_eq_some_iff.mp e2).1]; exact e2⟩
  nn := by
    have := x.nn
    show a.n ≤ (a.ow ++ [c]).length
    rw [List.length_append]
    omega
  tp := x.tp
end
theorem le_addP {F H F' H' : Hp} {P P' : List Addr} (l : Le F H P F' H' P') {p : Addr} (h : H p = none) : Le F H P F' H' (P' ++ [p]) :=
  ⟨l.fr, l.hp, l.nw, fun b m => by
    rcases List.mem_append.mp m with z | z
    · exact l.pw b z
    · simp at z; subst z; exact .inr h, l.ex⟩
section
variable {X : Cx} {E : XK} {pos : Pos} {st : Stmt} {sts rest : List Stmt} {e ec : Expr} {te : TE} {tt : TT} {ts us : TS} {we : WE} {wt : WT} {w w1 w2 : WS}
def wNext : WS := fun a D => D.nx a
def wSeq (w1 w2 : WS) : WS := fun a D => w1 a { D with nx := fun a' => w2 a' D }
theorem dss_nil : DSs X E [] tNext wNext := ⟨pss_nil, fun a A h σ F H fps x D e => e.nx a σ F H fps h x (Le.refl _ _ _) rfl rfl⟩
theorem snd_seq (h1 : SndS E ts w1) (h2 : SndS E us w2) : SndS E (tSeq ts us) (wSeq w1 w2) := by
  intro a A h σ F H fps x D e
  refine h1 a _ h σ F H fps x _ ⟨fun a' σ' F' H' fps' k x' l t n => ?_, e.rt, e.bk, e.ct, e.xb⟩
  exact h2 a' A k σ' F' H' fps' x' D (by rw [n]; exact e.le l t)
theorem dss_cons (h1 : DS X E st ts w1) (h2 : DSs X E rest us w2) : DSs X E (st :: rest) (tSeq ts us) (wSeq w1 w2) := ⟨pss_cons h1.ps h2.ps, snd_seq h1.so h2.so⟩
theorem dss_one (h1 : DS X E st ts w1) : DSs X E [st] ts w1 := ⟨pss_one h1.ps, h1.so⟩
theorem ds_pass : DS X E (.Pass pos) tNext wNext := ⟨ps_pass, dss_nil.so (X := X)⟩
def wBrk : WS := fun a D => D.bk a
def wCnt : WS := fun a D => D.ct a
theorem ds_brk : DS X E (.Break pos) tBreak wBrk := ⟨ps_break, fun a A h σ F H fps x D e => e.bk a σ F H fps h x (Le.refl _ _ _) rfl rfl⟩
theorem ds_cnt : DS X E (.Continue pos) tCont wCnt := ⟨ps_continue, fun a A h σ F H fps x D e => e.ct a σ F H fps h x (Le.refl _ _ _) rfl rfl⟩
theorem ends_b {E : XK} {n : Nat} {A : AE} {σ : Sgm} {F H : Hp} {fps : List (List Addr)} {D : Ends} (e : EndsOk E n A F H fps D) : BOk E A.xb n σ F H fps :=
  fun x a' d F' H' h1 h2 h3 h4 h5 => e.xb x a' σ d F' H' fps h1 h3 h4 rfl h2 h5
def wExpr (we : WE) : WS := fun a D => we a (fun _ a1 => D.nx a1) D.xb
theorem ds_expr (h : DE X E e te we) (hs : swapsWith e none pos.line X.env = pure false := by rfl) : DS X E (.Expr e pos) (tDrop te) (wExpr we) := ⟨ps_expr h.pe hs, by
  intro a A k σ F H fps x D en
  exact h.so a _ _ k σ F H fps x _ (fun r a1 v F1 H1 k1 n1 x1 l1 o1 w1 => en.nx a1 σ F1 H1 fps k1 x1 l1 rfl n1) (ends_b en)⟩
theorem ds_doc {x j pos'} : DS X E (.Expr (.Constant (.str x) j pos) pos') tNext wNext := ⟨ps_doc, dss_nil.so (X := X)⟩
def wRet (we : WE) : WS := fun a D => we a D.rt D.xb
theorem ds_ret (h : DE X E e te we) : DS X E (.Return (some e) pos) (tRet te) (wRet we) := ⟨ps_ret h.pe, by
  intro a A k σ F H fps x D en
  exact h.so a _ _ k σ F H fps x _ (fun r a1 v F1 H1 k1 n1 x1 l1 o1 w1 => en.rt r a1 σ v F1 H1 fps k1 x1 l1 rfl n1 o1 w1) (ends_b en)⟩
def wRetN : WS := fun a D => D.rt (.d .none) a
theorem ds_retN : DS X E (.Return none pos) tRetN wRetN := ⟨ps_retN, fun a A h σ F H fps x D e => e.rt _ a σ _ F H fps h x (Le.refl _ _ _) rfl rfl .non trivial⟩
def wIf (wt : WT) (w1 w2 : WS) : WS := fun a D => wt a (fun c a1 => (c = true → w1 a1 D) ∧ (c = false → w2 a1 D)) D.xb
theorem ds_if {sa sb : List Stmt} {ta tb : TS} (ht : DT X E ec tt wt) (h1 : DSs X E sa ta w1) (h2 : DSs X E sb tb w2) : DS X E (.If ec sa sb pos) (tIfS tt ta tb) (wIf wt w1 w2) := ⟨ps_if ht.pt h1.ps h2.ps, by
  intro a A k σ F H fps x D en
  refine ht.so a _ _ k σ F H fps x _ (fun c a1 F1 H1 k1 n1 x1 l1 => ?_) (ends_b en)
  cases c with
  | true => exact h1.so a1 A (k1.1 rfl) σ F1 H1 fps x1 D (by rw [n1]; exact en.le l1 rfl)
  | false => exact h2.so a1 A (k1.2 rfl) σ F1 H1 fps x1 D (by rw [n1]; exact en.le l1 rfl)⟩
def keep : Ev → Option Sl
  | .d x => some (.d x)
  | .nl xs => some (.d (.list xs))
  | .nd _ => none
  | .o k => some (.o k)
  | .v x => some (.v x)
  | .er x => some (.er x)
def wSet (i : Nat) (we : WE) : WS := fun a D => we a (fun r a1 => ∃ s, keep r = some s ∧ D.nx { a1 with sl := a1.sl.set i s }) D.xb
theorem snd_set {i : Nat} (h : SndE E te we) : SndS E (tAsg te (gName i)) (wSet i we) := by
  intro a A k σ F H fps x D en
  refine h a _ _ k σ F H fps x _ (fun r a1 v F1 H1 ⟨s, e1, k1⟩ n1 x1 l1 o1 w1 => ?_) (ends_b en)
  have go : ∀ F2, Fz a1 σ F1 H1 fps H F2 → SlOk F2 fps s (some v) → D.nx (σ.set i (some v)) H1 := fun F2 f so => en.nx _ _ F2 H1 fps k1 (f.ok.setSlot so) (f.le l1) rfl n1
  cases r with
  | d y => cases e1; exact go F1 (.refl x1) ⟨v, rfl, o1⟩
  | nl xs => cases e1; obtain ⟨F2, f, r⟩ := freeze_one x1 o1.w w1 (d := .list xs) rfl; exact go F2 f ⟨v, rfl, r⟩
  | nd xs => cases e1
  | o k => cases e1; obtain ⟨p, ps, rfl, r⟩ := o1; exact go F1 (.refl x1) ⟨p, ps, rfl, r⟩
  | v y => cases e1; cases o1; exact go F1 (.refl x1) rfl
  | er y => cases e1; exact go F1 (.refl x1) ⟨v, rfl, o1⟩
theorem ds_set {i : Nat} {x : Str} {pos' : Pos} (hN : X.N.Nodup) (hi : X.N[i]? = some x) (hx : Loc X.env.scope x) (h : DE X E e te we) (hs : swapsWith e (some (.Name x pos')) pos.line X.env = pure false := by rfl)
    (hf : X.fn x = true ∨ X.env.scope.names.lookup x = some .local := by first | exact .inl rfl | exact .inr rfl | assumption) : DS X E (.Assign [.Name x pos'] e pos) (tAsg te (gName i)) (wSet i we) := ⟨ps_set hN hi hx h.pe hs hf, snd_set h.so⟩
def cellOf : Ev → Option Own
  | .nl xs => some (.ls xs)
  | .nd kvs => some (.dc kvs)
  | _ => none
def wSetO (i : Nat) (we : WE) : WS := fun a D => we a (fun r a1 => ∃ c, cellOf r = some c ∧ D.nx { a1 with sl := a1.sl.set i (.o a1.ow.length), ow := a1.ow ++ [c] }) D.xb
theorem cell_ok {F H : Hp} {fps : List (List Addr)} {r : Ev} {v : V} {c : Own} (h : ValOk F H fps r v) (e : cellOf r = some c) : ∃ p, v = .ref p ∧ OwnOk F H [p] c ∧ F p = none ∧ p ∉ fps.flatten := by
  cases r with
  | nl xs => cases e; obtain ⟨p, vs, rfl, hp, f, n, r⟩ := h; exact ⟨p, rfl, ⟨p, vs, rfl, hp, r⟩, f, n⟩
  | nd xs => cases e; obtain ⟨p, rfl, hp, f, n⟩ := h; exact ⟨p, rfl, ⟨p, rfl, hp⟩, f, n⟩
  | _ => cases e
theorem new_at {H : Hp} {r : Ev} {p : Addr} {c : Own} (w : NewOk H r (.ref p)) (e : cellOf r = some c) : H p = none := by
  cases r with
  | nl xs => exact w p rfl
  | nd xs => exact w p rfl
  | _ => cases e
theorem snd_setO {i : Nat} (h : SndE E te we) : SndS E (tAsg te (gName i)) (wSetO i we) := by
  intro a A k σ F H fps x D en
  refine h a _ _ k σ F H fps x _ (fun r a1 v F1 H1 ⟨c, e1, k1⟩ n1 x1 l1 o1 w1 => ?_) (ends_b en)
  obtain ⟨p, rfl, oc, f, n⟩ := cell_ok o1 e1
  have x2 := (x1.addCell oc f n).setSlot (i := i) (s := .o a1.ow.length) (v := .ref p) ⟨p, [], rfl, by rw [← x1.len]; simp⟩
  refine en.nx _ _ F1 H1 (fps ++ [[p]]) k1 x2 ?_ ?_ n1
  · rw [List.flatten_append]
    have : ([[p]] : List (List Addr)).flatten = [p] := by simp
    rw [this]
    exact le_addP l1 (new_at w1 e1)
  · exact List.take_append_of_le_length (by rw [x.len]; exact x.nn)
theorem ds_setO {i : Nat} {x : Str} {pos' : Pos} (hN : X.N.Nodup) (hi : X.N[i]? = some x) (hx : Loc X.env.scope x) (h : DE X E e te we) (hs : swapsWith e (some (.Name x pos')) pos.line X.env = pure false := by rfl)
    (hf : X.fn x = true ∨ X.env.scope.names.lookup x = some .local := by first | exact .inl rfl | exact .inr rfl | assumption) : DS X E (.Assign [.Name x pos'] e pos) (tAsg te (gName i)) (wSetO i we) := ⟨ps_set hN hi hx h.pe hs hf, snd_setO h.so⟩
end
end DL
namespace DL
open PySem PySem.Spec PyProof.Rows L2
abbrev WG := D → AS → (AS → Prop) → Prop
structure SndG (vs : List Nat) (g : TG) (w : WG) : Prop where
  run : ∀ d a K, w d a K → ∀ σ F H fps v, AOk a σ F H fps → Rep F v d → ∀ Q : Sgm → Hp → Prop,
    (∀ a' σ', K a' → a'.n = a.n → a'.ow = a.ow → AOk a' σ' F H fps → σ'.length = σ.length → (∀ j, j ∉ vs → σ'[j]? = σ[j]?) → Q σ' H) → g v σ H Q
structure DG (X : Cx) (e : Expr) (vs : List Nat) (g : TG) (w : WG) : Prop where
  pg : PG X e g
  so : SndG vs g w
def wgName (i : Nat) : WG := fun d a K => K { a with sl := a.sl.set i (.d d) }
theorem snd_gname {i : Nat} : SndG [i] (gName i) (wgName i) := ⟨fun d a K k σ F H fps v x r Q q =>
  q _ (σ.set i (some v)) k rfl rfl (x.setSlot ⟨v, rfl, r⟩) (by rw [List.length_set]) fun j hj => List.getElem?_set_ne (by simp at hj; exact fun e => hj e.symm)⟩
section
variable {X : Cx} {E : XK} {pos : Pos}
theorem dg_name {i : Nat} {x : Str} (hN : X.N.Nodup) (hi : X.N[i]? = some x) (hx : Loc X.env.scope x) (hf : X.fn x = true ∨ X.env.scope.names.lookup x = some .local := by first | exact .inl rfl | exact .inr rfl | assumption) : DG X (.Name x pos) [i] (gName i) (wgName i) :=
  ⟨pg_name hN hi hx hf, snd_gname⟩
abbrev WGs := List D → AS → (AS → Prop) → Prop
structure SndGs (vs : List Nat) (g : TGs) (w : WGs) : Prop where
  run : ∀ ds a K, w ds a K → ∀ σ F H fps us, AOk a σ F H fps → RepAll F us ds → ∀ Q : Sgm → Hp → Prop,
    (∀ a' σ', K a' → a'.n = a.n → a'.ow = a.ow → AOk a' σ' F H fps → σ'.length = σ.length → (∀ j, j ∉ vs → σ'[j]? = σ[j]?) → Q σ' H) → g us σ H Q
structure DGs (X : Cx) (es : List Expr) (vs : List Nat) (g : TGs) (w : WGs) : Prop where
  pg : PGs X es g
  so : SndGs vs g w
def wgNil : WGs := fun ds a K => ds = [] ∧ K a
def wgCons (w : WG) (ws : WGs) : WGs := fun ds a K => ∃ d r, ds = d :: r ∧ w d a (fun a' => ws r a' K)
theorem dgs_nil : DGs X [] [] gNil wgNil := ⟨pgs_nil, ⟨fun ds a K k σ F H fps us x r Q q => by
  obtain ⟨rfl, k⟩ := k
  cases r
  exact ⟨rfl, q a σ k rfl rfl x rfl fun _ _ => rfl⟩⟩⟩
theorem dgs_cons {e : Expr} {es : List Expr} {v1 v2 : List Nat} {g : TG} {gs : TGs} {w : WG} {ws : WGs} (h1 : DG X e v1 g w) (h2 : DGs X es v2 gs ws)
    (hs : (assignEach (e :: es) X.env).map (·.2) = assign e X.env :: (assignEach es X.env).map (·.2) := by rfl) : DGs X (e :: es) (v1 ++ v2) (gCons g gs) (wgCons w ws) := ⟨pgs_cons h1.pg h2.pg hs, ⟨fun ds a K k σ F H fps us x r Q q => by
  obtain ⟨d, r2, rfl, k⟩ := k
  cases r with
  | cons rv rr =>
    refine ⟨_, _, rfl, h1.so.run d a _ k σ F H fps _ x rv _ fun a1 σ1 k1 n1 w1 x1 l1 o1 => ?_⟩
    refine h2.so.run r2 a1 K k1 σ1 F H fps _ x1 rr Q fun a2 σ2 k2 n2 w2 x2 l2 o2 => ?_
    refine q a2 σ2 k2 (n2.trans n1) (w2.trans w1) x2 (l2.trans l1) fun j hj => ?_
    rw [List.mem_append, not_or] at hj
    exact (o2 j hj.2).trans (o1 j hj.1)⟩⟩
def wgTup (n : Nat) (ws : WGs) : WG := fun d a K => ∃ ds, d = .tuple ds ∧ ds.length = n ∧ ws ds a K
theorem dg_tup {es : List Expr} {k : Nat} {vs : List Nat} {gs : TGs} {ws : WGs} {n : Nat} (hc : X.calm = true) (h : DGs X es vs gs ws) (hn : (assignEach es X.env).length = n := by rfl)
    (hst : (assignEach es X.env).findIdx? (·.1) = none := by rfl) : DG X (.Tuple es k pos) vs (gTup X.K n gs) (wgTup n ws) := ⟨pg_tup hc h.pg hn hst, ⟨fun d a K k σ F H fps v x r Q q => by
  obtain ⟨ds, rfl, hl, k⟩ := k
  cases r with
  | tup hp rr => exact ⟨_, _, rfl, SqT.of (x.sub _ _ hp), by rw [rr.length]; exact hl, h.so.run ds a K k σ F H fps _ x rr Q q⟩⟩⟩
end
structure SrcOk (J : It) (F : Hp) (xs : List D) : Prop where
  go : ∀ i H, Sub F H → i < xs.length → J.go i H
  stop : ∀ i H, Sub F H → xs.length ≤ i → J.stop i H
  yld : ∀ i H v H' F1, Sub F F1 → Sub F1 H → J.yld i H v H' → ∀ d, xs[i]? = some d → (H' = H ∧ Rep F1 v d) ∨ ∃ q o, H q = none ∧ H' = upd H q o ∧ Rep (upd F1 q o) v d
abbrev WI := AS → (List D → AS → Prop) → (XD → AS → Prop) → Prop
def SndI (E : XK) (wi : TI) (w : WI) : Prop :=
  ∀ a K B, w a K B → ∀ σ F H fps, AOk a σ F H fps → ∀ R : It → Hp → Prop,
    (∀ xs a' F' H' J, K xs a' → a'.n = a.n → AOk a' σ F' H' fps → Le F H fps.flatten F' H' fps.flatten → SrcOk J F' xs → R J H') → BOk E B a.n σ F H fps → wi σ H R
structure DI (X : Cx) (E : XK) (tg e : Expr) (wi : TI) (w : WI) : Prop where
  pi : PI X tg e wi
  so : SndI E wi w
theorem src_list {K : PySem.W.Frag} {F : Hp} {p : Addr} {vs : List V} {xs : List D} (h : F p = some (.lst vs)) (r : RepAll F vs xs) : SrcOk (Itl K p) F xs where
  go := fun i H s hi => by
    have hl := r.length
    exact ⟨vs, vs[i]'(by omega), SqL.of (s _ _ h), by simp⟩
  stop := fun i H s hi => ⟨vs, SqL.of (s _ _ h), by rw [r.length]; exact hi⟩
  yld := fun i H v H' F1 s1 s2 y d hd => by
    obtain ⟨e, y⟩ := y
    subst e
    have e1 := y vs (SqL.of (s2 _ _ (s1 _ _ h)))
    obtain ⟨d', e2, r2⟩ := r.get e1
    rw [hd] at e2; cases e2
    exact .inl ⟨rfl, r2.mono s1⟩
theorem src_tup {K : PySem.W.Frag} {F : Hp} {p : Addr} {vs : List V} {xs : List D} (h : F p = some (.tup vs)) (r : RepAll F vs xs) : SrcOk (Itt K p) F xs where
  go := fun i H s hi => by
    have hl := r.length
    exact ⟨vs, vs[i]'(by omega), SqT.of (s _ _ h), by simp⟩
  stop := fun i H s hi => ⟨vs, SqT.of (s _ _ h), by rw [r.length]; exact hi⟩
  yld := fun i H v H' F1 s1 s2 y d hd => by
    obtain ⟨e, y⟩ := y
    subst e
    have e1 := y vs (SqT.of (s2 _ _ (s1 _ _ h)))
    obtain ⟨d', e2, r2⟩ := r.get e1
    rw [hd] at e2; cases e2
    exact .inl ⟨rfl, r2.mono s1⟩
def rangeD (lo : Int) (n : Nat) : List D := (List.range n).map fun (i : Nat) => PyData.int (lo + i)
theorem src_range {F : Hp} {lo : Int} {n : Nat} : SrcOk (Itr lo n) F (rangeD lo n) where
  go := fun i H _ hi => by unfold rangeD at hi; simp at hi; exact hi
  stop := fun i H _ hi => by unfold rangeD at hi; simp at hi; exact hi
  yld := fun i H v H' F1 _ _ y d hd => by
    obtain ⟨e, y⟩ := y
    subst e y
    unfold rangeD at hd
    rw [List.getElem?_map] at hd
    cases e : (List.range n)[i]? with
    | none => rw [e] at hd; cases hd
    | some j =>
      rw [e] at hd
      obtain ⟨h1, h2⟩ := List.getElem?_eq_some_iff.mp e
      simp at h2
      subst h2
      cases hd
      exact .inl ⟨rfl, .int _⟩
section
variable {X : Cx} {E : XK} {tg : Expr}
def iSeq (K : PySem.W.Frag) (tl : TE) : TI := fun σ H R => tl σ H fun x H1 => ∃ a, x = .ref a ∧ ((∃ xs, H1 a = some (.lst xs)) ∧ R (Itl K a) H1 ∨ (∃ xs, H1 a = some (.tup xs)) ∧ R (Itt K a) H1)
theorem pi_seq {l : Expr} {tl : TE} (hl : PE X l tl) : PI X tg l (iSeq X.K tl) := by
  refine ⟨fun pins s σ H R I h => ?_⟩
  refine thn (hl.run pins s σ H _ I h) fun v s1 ⟨x, H1, I1, r1, q1⟩ => ?_
  obtain ⟨a, e, q⟩ := q1
  subst e
  cases r1
  have hfp : ∀ b ∈ [s1.heap.objs.size], FpOk X pins H1 b := fun b hb => by
    have e : b = s1.heap.objs.size := by simpa using hb
    subst e
    exact I1.fpOk (Nat.le_refl _) (I1.hok.fresh (Nat.le_refl _))
  rcases q with ⟨⟨xs, hx⟩, q⟩ | ⟨⟨xs, hx⟩, q⟩
  · obtain ⟨its, rv, pl, hz⟩ := I1.list (SqL.of hx)
    refine wpAny_pyIter_list pl.isList ?_
    exact ⟨s1.heap.objs.size, [s1.heap.objs.size], _, _, H1, rfl, I1.kept (t' := s1.toks) fun b o e => Heap.get?_push_of_some _ e, turn_list a _, ⟨_, Heap.get?_push_size _ rfl, rfl, rfl⟩, hfp, q⟩
  · obtain ⟨its, rv, pl, hz⟩ := I1.tuple (SqT.of hx)
    refine wpAny_pyIter_tuple (show s1.heap.IsTuple a its.toArray from pl) ?_
    exact ⟨s1.heap.objs.size, [s1.heap.objs.size], _, _, H1, rfl, I1.kept (t' := s1.toks) fun b o e => Heap.get?_push_of_some _ e, turn_tuple a _, ⟨_, Heap.get?_push_size _ rfl, rfl, rfl⟩, hfp, q⟩
def wiSeq (we : WE) : WI := fun a K B => we a (fun r a1 => ∃ d ds, frz r = some d ∧ itemsD d = some ds ∧ K ds a1) B
theorem di_seq {l : Expr} {tl : TE} {we : WE} (h : DE X E l tl we) : DI X E tg l (iSeq X.K tl) (wiSeq we) := ⟨pi_seq h.pe, by
  intro a K B k σ F H fps x R q b
  refine h.so a _ B k σ F H fps x _ (fun r a1 v F1 H1 ⟨d, ds, e1, e2, k1⟩ n1 x1 l1 o1 w1 => ?_) b
  obtain ⟨F2, f, rp⟩ := freeze_one (H0 := H) x1 o1.w w1 e1
  cases d with
  | list ys =>
    cases e2
    cases rp with
    | lst hp rr => exact ⟨_, rfl, .inl ⟨⟨_, x1.sub.trans (Sub.refl _) |> fun _ => f.ok.sub _ _ hp⟩, q _ a1 F2 H1 _ k1 n1 f.ok (f.le l1) (src_list hp rr)⟩⟩
  | tuple ys =>
    cases e2
    cases rp with
    | tup hp rr => exact ⟨_, rfl, .inr ⟨⟨_, f.ok.sub _ _ hp⟩, q _ a1 F2 H1 _ k1 n1 f.ok (f.le l1) (src_tup hp rr)⟩⟩
  | _ => cases e2⟩
def wiRng1 (wa : WA) : WI := fun a K B => wa a (fun rs a1 => ∃ r j, rs = [r] ∧ vw a1 r = some (.int j) ∧ -(2 ^ 62) ≤ j ∧ j < 2 ^ 62 ∧ K (rangeD 0 j.toNat) a1) B
def wiRng2 (wa : WA) : WI := fun a K B => wa a (fun rs a1 => ∃ r u i j, rs = [r, u] ∧ vw a1 r = some (.int i) ∧ vw a1 u = some (.int j) ∧ (-(2 ^ 62) ≤ i ∧ i < 2 ^ 62 ∧ -(2 ^ 62) ≤ j ∧ j < 2 ^ 62) ∧ K (rangeD i (j - i).toNat) a1) B
theorem di_rng1 {a : Expr} {ta : TA} {wa : WA} {p pos : Pos} (hg : Gl X "range") (hm : X.mg "range" = none) (h : DA X E [a] ta wa) (hs : starEach [a] X.env = [(false, eval a X.env)] := by rfl) : DI X E tg (.Call (.Name "range" p) [a] [] pos) (iRng1 ta) (wiRng1 wa) := ⟨pi_range1 hg hm h.pa hs, by
  intro a K B k σ F H fps x R q b
  refine h.so a _ B k σ F H fps x _ (fun rs a1 vs F1 H1 ⟨r, j, e0, e1, h1, h2, k1⟩ n1 x1 l1 o1 w1 => ?_) b
  subst e0
  obtain ⟨v, rfl, o⟩ := vals_one o1
  exact ⟨j, by rw [vw_int x1 o e1], h1, h2, q _ a1 F1 H1 _ k1 n1 x1 l1 src_range⟩⟩
theorem di_rng2 {a c : Expr} {ta : TA} {wa : WA} {p pos : Pos} (hg : Gl X "range") (hm : X.mg "range" = none) (h : DA X E [a, c] ta wa) (hs : starEach [a, c] X.env = [(false, eval a X.env), (false, eval c X.env)] := by rfl)
    (hs2 : starEach [c] X.env = [(false, eval c X.env)] := by rfl) : DI X E tg (.Call (.Name "range" p) [a, c] [] pos) (iRng2 ta) (wiRng2 wa) := ⟨pi_range2 hg hm h.pa hs hs2, by
  intro a K B k σ F H fps x R q b
  refine h.so a _ B k σ F H fps x _ (fun rs a1 vs F1 H1 ⟨r, u, i, j, e0, e1, e2, h1, k1⟩ n1 x1 l1 o1 w1 => ?_) b
  subst e0
  obtain ⟨v, v2, rfl, o, o2⟩ := vals_two o1
  exact ⟨i, j, by rw [vw_int x1 o e1, vw_int x1 o2 e2], h1, q _ a1 F1 H1 _ k1 n1 x1 l1 src_range⟩⟩
def wFor (wi : WI) (wg : WG) (wb : WS) : WS := fun a D => wi a (fun xs a1 => ∃ I : Nat → AS → Prop, I 0 a1 ∧ (∀ a2, I xs.length a2 → D.nx a2) ∧
  ∀ k x a2, xs[k]? = some x → I k a2 → wg x a2 (fun a3 => wb a3 { D with nx := I (k + 1), ct := I (k + 1), bk := D.nx })) D.xb
theorem snd_for {wi : TI} {w : WI} {vs : List Nat} {g : TG} {wg : WG} {tb : TS} {wb : WS} (hi : SndI E wi w) (hg : SndG vs g wg) (hb : SndS E tb wb) : SndS E (tFor wi g tb) (wFor w wg wb) := by
  intro a A k σ F H fps x D en
  refine hi a _ _ k σ F H fps x _ (fun xs a1 F1 H1 J k1 n1 x1 l1 so => ?_) (ends_b en)
  obtain ⟨I, i0, iend, turn⟩ := k1
  refine ⟨fun i m σ2 H2 => m = xs.length - i ∧ i ≤ xs.length ∧ ∃ a2 F2 fps2, I i a2 ∧ a2.n = a.n ∧ AOk a2 σ2 F2 H2 fps2 ∧ Le F1 H1 fps.flatten F2 H2 fps2.flatten ∧ fps2.take a.n = fps.take a.n,
    ⟨xs.length, by simp, Nat.zero_le _, a1, F1, fps, i0, n1, x1, Le.refl _ _ _, rfl⟩, ?_⟩
  rintro i m σ2 H2 ⟨rfl, hi, a2, F2, fps2, ii, n2, x2, l2, t2⟩
  by_cases hlt : i < xs.length
  · refine .inr ⟨so.go i H2 (l2.fr.trans x2.sub) hlt, fun σ' H' => ∃ a3 F3 fps3, I (i + 1) a3 ∧ a3.n = a.n ∧ AOk a3 σ' F3 H' fps3 ∧ Le F1 H1 fps.flatten F3 H' fps3.flatten ∧ fps3.take a.n = fps.take a.n,
      fun σ' H' h => ⟨xs.length - (i + 1), by omega, rfl, hlt, h⟩, fun v H' y => ?_⟩
    obtain ⟨d, hd⟩ : ∃ d, xs[i]? = some d := ⟨xs[i], by simp [hlt]⟩
    have main : ∀ F3, AOk a2 σ2 F3 H' fps2 → Le F2 H2 fps2.flatten F3 H' fps2.flatten → Rep F3 v d → g v σ2 H' fun σ2 H2 => tb { D with nx := fun σ' H' => ∃ a3 F3 fps3, I (i + 1) a3 ∧ a3.n = a.n ∧ AOk a3 σ' F3 H' fps3 ∧ Le F1 H1 fps.flatten F3 H' fps3.flatten ∧ fps3.take a.n = fps.take a.n, ct := fun σ' H' => ∃ a3 F3 fps3, I (i + 1) a3 ∧ a3.n = a.n ∧ AOk a3 σ' F3 H' fps3 ∧ Le F1 H1 fps.flatten F3 H' fps3.flatten ∧ fps3.take a.n = fps.take a.n, bk := D.nx } σ2 H2 := by
      intro F3 x3 l3 r3
      refine hg.run d a2 _ (turn i d a2 hd ii) σ2 F3 H' fps2 v x3 r3 _ fun a4 σ4 k4 n4 w4 x4 _ _ => ?_
      have l23 := l2.trans l3
      have en4 := en.le (l1.trans l23) t2
      have nx : ∀ a' σ' F' H'' fps', I (i + 1) a' → AOk a' σ' F' H'' fps' → Le F3 H' fps2.flatten F' H'' fps'.flatten → fps'.take a.n = fps2.take a.n → a'.n = a.n →
          ∃ a3 F3 fps3, I (i + 1) a3 ∧ a3.n = a.n ∧ AOk a3 σ' F3 H'' fps3 ∧ Le F1 H1 fps.flatten F3 H'' fps3.flatten ∧ fps3.take a.n = fps.take a.n :=
        fun a' σ' F' H'' fps' h1 h2 h3 h4 h5 => ⟨a', F', fps', h1, h5, h2, l23.trans h3, h4.trans t2⟩
      refine hb a4 _ k4 σ4 F3 H' fps2 x4 _ ?_
      rw [n4, n2]
      exact ⟨nx, en4.rt, en4.nx, nx, en4.xb⟩
    rcases so.yld i H2 v H' F2 l2.fr x2.sub y d hd with ⟨e, r⟩ | ⟨q, o, hq, e, r⟩
    · subst e
      exact main F2 x2 (Le.refl _ _ _) r
    · subst e
      exact main _ (x2.newF hq) (Le.newF x2.sub hq) r
  · have e : i = xs.length := by omega
    subst e
    exact .inl ⟨so.stop _ H2 (l2.fr.trans x2.sub) (Nat.le_refl _), en.nx a2 σ2 F2 H2 fps2 (iend a2 ii) x2 (l1.trans l2) t2 n2⟩
theorem ds_for {iter : Expr} {body : List Stmt} {wi : TI} {w : WI} {vs : List Nat} {g : TG} {wg : WG} {tb : TS} {wb : WS} {pos : Pos} (hp : PassesOwn (model X.prog X.w) X.A X.env X.xe) (hc : X.calm = true) (hi : DI X E tg iter wi w) (hg : DG X tg vs g wg) (hb : DSs X E body tb wb)
    (hs : ∀ x, foldedSetIterable iter X.env x = pure x := by intro _; rfl) : DS X E (.For tg iter body [] pos) (tFor wi g tb) (wFor w wg wb) := ⟨ps_for hp hc hi.pi hg.pg hb.ps hs, snd_for hi.so hg.so hb.so⟩
end
end DL
namespace DL
open PySem PySem.Spec PyProof.Rows L2
def wipeS (sl : List Sl) : List Nat → List Sl
  | [] => sl
  | v :: vs => (wipeS sl vs).set v .un
section
variable {a : AS} {σ : Sgm} {F H : Hp} {fps : List (List Addr)}
theorem AOk.wipe (x : AOk a σ F H fps) : ∀ vs : List Nat, AOk { a with sl := wipeS a.sl vs } (L2.wipe σ vs) F H fps
  | [] => x
  | v :: vs => (x.wipe vs).unSlot (i := v) none
theorem wipe_at (σ : Sgm) (j : Nat) : ∀ vs : List Nat, (L2.wipe σ vs)[j]? = if j ∈ vs then (σ[j]?).map (fun _ => none) else σ[j]?
  | [] => by simp [L2.wipe]
  | v :: vs => by
    unfold L2.wipe
    by_cases hv : v = j
    · subst hv
      simp only [List.mem_cons, true_or, if_true]
      by_cases hl : v < σ.length
      · rw [List.getElem?_set_self (by rw [L2.wipe_length]; exact hl), List.getElem?_eq_getElem hl]; rfl
      · rw [List.getElem?_eq_none (by rw [List.length_set, L2.wipe_length]; omega), List.getElem?_eq_none (by omega)]; rfl
    · rw [List.getElem?_set_ne hv, wipe_at σ j vs]
      have : (j ∈ v :: vs) = (j ∈ vs) := by simp [List.mem_cons, Ne.symm hv]
      simp only [this]
theorem wipe_eq {σ σ' : Sgm} {vs us : List Nat} (h : ∀ j ∈ us, j ∈ vs) (l : σ'.length = (L2.wipe σ vs).length) (e : ∀ j, j ∉ us → σ'[j]? = (L2.wipe σ vs)[j]?) : L2.wipe σ' vs = L2.wipe σ vs := by
  apply List.ext_getElem?
  intro j
  rw [wipe_at, wipe_at]
  by_cases hj : j ∈ vs
  · rw [if_pos hj, if_pos hj]
    rw [L2.wipe_length] at l
    by_cases hl : j < σ.length
    · rw [List.getElem?_eq_getElem hl, List.getElem?_eq_getElem (by omega)]; rfl
    · rw [List.getElem?_eq_none (by omega), List.getElem?_eq_none (by omega)]
  · rw [if_neg hj, if_neg hj, e j fun z => hj (h j z), wipe_at, if_neg hj]
theorem AOk.cells {a' : AS} {σ' : Sgm} {F' H' : Hp} (x : AOk a σ F H fps) (y : AOk a' σ' F' H' fps) (s : Sub F F') (n : a'.n = a.n) : AOk { a with ow := a'.ow } σ F' H' fps where
  sub := y.sub
  nd := y.nd
  len := y.len
  own := y.own
  nf := y.nf
  ln := x.ln
  sl := fun i t e => (x.sl i t e).mono s
  nn := by have := y.nn; rw [n] at this; exact this
  tp := y.tp
end
def wLc (w : WI) (wg : WG) (wt : WT) (we : WE) (vs : List Nat) : WE := fun a K B => w a (fun xs a1 => xs.length ≤ 100000 ∧ ∃ I : Nat → List D → List Own → Prop, I 0 [] a1.ow ∧
  (∀ acc ow, I xs.length acc ow → K (.nl acc) { a1 with ow := ow }) ∧
  ∀ k x acc ow, xs[k]? = some x → I k acc ow → wg x { a1 with sl := wipeS a1.sl vs, ow := ow } (fun a3 => wt a3 (fun b a4 =>
    (b = true → we a4 (fun r a5 => ∃ y, frz r = some y ∧ I (k + 1) (acc ++ [y]) a5.ow) (fun _ _ => False)) ∧ (b = false → I (k + 1) acc a4.ow)) (fun _ _ => False))) B
theorem noB {n : Nat} {σ : Sgm} {F H : Hp} {fps : List (List Addr)} {E : XK} : BOk E (fun _ _ => False) n σ F H fps := fun _ _ _ _ _ h => h.elim
theorem snd_lc {E : XK} {wi : TI} {w : WI} {us vs : List Nat} {g : TG} {wg : WG} {tt : TT} {wt : WT} {te : TE} {we : WE} (hi : SndI E wi w) (hu : ∀ j ∈ us, j ∈ vs) (hg : SndG us g wg) (ht : SndT EC tt wt) (he : SndE EC te we) :
    SndE E (tLc wi g tt te vs) (wLc w wg wt we vs) := by
  intro a K B k σ F H fps x Q q b
  refine hi a _ B k σ F H fps x _ (fun xs a1 F1 H1 J k1 n1 x1 l1 so => ?_) b
  obtain ⟨hz, I, i0, iend, turn⟩ := k1
  intro D hD
  have hn : D ∉ fps.flatten := x1.fresh hD
  have hf : F1 D = none := x1.sub.gone hD
  refine ⟨fun i m H2 => m = xs.length - i ∧ i ≤ xs.length ∧ ∃ acc ow F2 ws, I i acc ow ∧ acc.length ≤ i ∧ AOk { a1 with ow := ow } σ F2 H2 fps ∧ Le F1 H1 fps.flatten F2 H2 fps.flatten ∧ H2 D = some (.lst ws) ∧ F2 D = none ∧ RepAll F2 ws acc,
    ⟨xs.length, by simp, Nat.zero_le _, [], a1.ow, F1, [], i0, Nat.le_refl _, x1.newH hD, Le.newH hD, upd_same, hf, .nil⟩, ?_⟩
  rintro i m H2 ⟨rfl, hi, acc, ow, F2, ws, ii, ha, x2, l2, h2, f2, r2⟩
  by_cases hlt : i < xs.length
  · refine .inr ⟨so.go i H2 (l2.fr.trans x2.sub) hlt, fun H' => ∃ acc ow F2 ws, I (i + 1) acc ow ∧ acc.length ≤ i + 1 ∧ AOk { a1 with ow := ow } σ F2 H' fps ∧ Le F1 H1 fps.flatten F2 H' fps.flatten ∧ H' D = some (.lst ws) ∧ F2 D = none ∧ RepAll F2 ws acc,
      fun H' h => ⟨xs.length - (i + 1), by omega, rfl, hlt, h⟩, fun v H' y => ?_⟩
    obtain ⟨d, hd⟩ : ∃ d, xs[i]? = some d := ⟨xs[i], by simp [hlt]⟩
    have main : ∀ F3, AOk { a1 with ow := ow } σ F3 H' fps → Le F2 H2 fps.flatten F3 H' fps.flatten → Rep F3 v d → g v (L2.wipe σ vs) H' fun σ2 H2 => L2.wipe σ2 vs = L2.wipe σ vs ∧ tt σ2 H2 fun b H3 =>
        if b = true then te σ2 H3 fun y H4 => ∃ acc, H4 D = some (.lst acc) ∧ acc.length < sizeLine ∧ (∃ acc' ow F2 ws, I (i + 1) acc' ow ∧ acc'.length ≤ i + 1 ∧ AOk { a1 with ow := ow } σ F2 (upd H4 D (.lst (acc ++ [y]))) fps ∧
          Le F1 H1 fps.flatten F2 (upd H4 D (.lst (acc ++ [y]))) fps.flatten ∧ (upd H4 D (.lst (acc ++ [y]))) D = some (.lst ws) ∧ F2 D = none ∧ RepAll F2 ws acc')
        else (∃ acc ow F2 ws, I (i + 1) acc ow ∧ acc.length ≤ i + 1 ∧ AOk { a1 with ow := ow } σ F2 H3 fps ∧ Le F1 H1 fps.flatten F2 H3 fps.flatten ∧ H3 D = some (.lst ws) ∧ F2 D = none ∧ RepAll F2 ws acc) := by
      intro F3 x3 l3 r3
      refine hg.run d _ _ (turn i d acc ow hd ii) (L2.wipe σ vs) F3 H' fps v (x3.wipe vs) r3 _ fun a4 σ4 k4 n4 w4 x4 ln4 e4 => ⟨wipe_eq hu ln4 e4, ?_⟩
      refine ht a4 _ _ k4 σ4 F3 H' fps x4 _ (fun bb a5 F5 H5 k5 n5 x5 l5 => ?_) noB
      have D5 : H5 D = some (.lst ws) := l5.hp D _ hn (l3.hp D _ hn h2)
      have N5 : F5 D = none := (l3.trans l5).noF h2 hn f2
      cases bb with
      | false =>
        rw [if_neg Bool.false_ne_true]
        exact ⟨acc, a5.ow, F5, ws, k5.2 rfl, by omega, x3.cells x5 l5.fr (n5.trans n4), (l2.trans l3).trans l5, D5, N5, (r2.mono l3.fr).mono l5.fr⟩
      | true =>
        rw [if_pos rfl]
        refine he a5 _ _ (k5.1 rfl) σ4 F5 H5 fps x5 _ (fun r a6 u F6 H6 ⟨y, e6, k6⟩ n6 x6 l6 o6 w6 => ?_) noB
        have D6 : H6 D = some (.lst ws) := l6.hp D _ hn D5
        have N6 : F6 D = none := l6.noF D5 hn N5
        obtain ⟨F7, f7, r7⟩ := freeze_one (H0 := H5) x6 o6.w w6 e6
        have N7 : F7 D = none := by
          cases e : F7 D with
          | none => rfl
          | some o =>
            rcases f7.nw D (by rw [e]; simp) with z | z
            · exact absurd N6 z
            · rw [D5] at z; cases z
        have hw : ws.length ≤ i := by rw [r2.length]; exact ha
        refine ⟨ws, D6, by rw [sizeLine_eq]; omega, acc ++ [y], a6.ow, F7, ws ++ [u], k6, by rw [List.length_append]; simp; omega, ?_, ?_, upd_same, N7, ?_⟩
        · have x7 := x3.cells f7.ok ((l5.fr.trans l6.fr).trans f7.sub) (n6.trans (n5.trans n4))
          refine ⟨x7.sub.mut N7, x7.nd, x7.len, fun j fp c e1 e2 => (x7.own j fp c e1 e2).mono (Sub.refl _) fun p hp o e => ?_, x7.nf, x7.ln, x7.sl, x7.nn, tp_upd x7.tp⟩
          rw [upd_ne (fun z => hn (by rw [← z]; exact flat_mem e1 hp))]
          exact e
        · have l7 := ((l2.trans l3).trans l5).trans (f7.le l6)
          refine ⟨l7.fr, fun p o np e => ?_, l7.nw, l7.pw, fun p e => ?_⟩
          · by_cases hp : p = D
            · subst hp; rw [hD] at e; cases e
            · rw [upd_ne hp]; exact l7.hp p o np e
          · by_cases hp : p = D
            · subst hp; rw [upd_same] at e; cases e
            · rw [upd_ne hp] at e; exact l7.ex p e
        · exact (((r2.mono l3.fr).mono l5.fr).mono l6.fr).mono f7.sub |>.app (.one r7)
    rcases so.yld i H2 v H' F2 l2.fr x2.sub y d hd with ⟨e, r⟩ | ⟨p, o, hp, e, r⟩
    · subst e
      exact main F2 x2 (Le.refl _ _ _) r
    · subst e
      exact main _ (x2.newF hp) (Le.newF x2.sub hp) r
  · have e : i = xs.length := by omega
    subst e
    refine .inl ⟨so.stop _ H2 (l2.fr.trans x2.sub) (Nat.le_refl _), ?_⟩
    exact q (.nl acc) _ _ F2 H2 (iend acc ow ii) n1 x2 (l1.trans l2) ⟨D, ws, rfl, h2, f2, hn, r2⟩ fun p' e' => by cases e'; exact l1.ex _ hD
section
variable {X : Cx} {E : XK} {elt tg iter : Expr} {ifs : List Expr} {scope : Scope} {own : List (Str × Nat)} {pos : Pos} {wi : TI} {w : WI} {us : List Nat} {g : TG} {wg : WG} {tt : TT} {wt : WT} {te : TE} {we : WE}
structure DTs (X : Cx) (E : XK) (ifs : List Expr) (tt : TT) (w : WT) : Prop where
  pt : PTs X ifs tt
  so : SndT E tt w
def wYes : WT := fun a K _ => K true a
theorem dts_nil : DTs X E [] tYes wYes := ⟨pts_nil, fun a K B k σ F H fps x Q q _ => q true a F H k rfl x (Le.refl _ _ _)⟩
theorem dts_one {c : Expr} (h : DT X E c tt wt) : DTs X E [c] tt wt := ⟨pts_one h.pt, h.so⟩
theorem de_lc (hc : X.calm = true) (hN : X.N.Nodup) (hi : DI X E tg iter wi w) (ok : BlkOk X.N X.env.scope scope own) (hu : ∀ j ∈ us, j ∈ own.map (·.2))
    (hg : ∀ (s : Shared) (H : Hp) (C : Addr) (cl : List (Str × Addr)) (fp : List Addr), DG (X.blk s H scope (compEnvC scope cl C X.env) fp) tg us g wg)
    (ht : ∀ (s : Shared) (H : Hp) (C : Addr) (cl : List (Str × Addr)) (fp : List Addr), DTs (X.blk s H scope (compEnvC scope cl C X.env) fp) EC ifs tt wt)
    (he : ∀ (s : Shared) (H : Hp) (C : Addr) (cl : List (Str × Addr)) (fp : List Addr), DE (X.blk s H scope (compEnvC scope cl C X.env) fp) EC elt te we)
    (hs : ∀ x, foldedSetIterable iter X.env x = pure x := by intro _; rfl) : DE X E (.ListComp elt [⟨tg, iter, ifs, 0⟩] scope pos) (tLc wi g tt te (own.map (·.2))) (wLc w wg wt we (own.map (·.2))) :=
  ⟨pe_lc hc hN hi.pi ok (fun s H C cl fp => (hg s H C cl fp).pg) (fun s H C cl fp => (ht s H C cl fp).pt) (fun s H C cl fp => (he s H C cl fp).pe) hs,
    snd_lc hi.so hu (hg X.s_0 X.H_0 0 [] []).so (ht X.s_0 X.H_0 0 [] []).so (he X.s_0 X.H_0 0 [] []).so⟩
theorem ps_lcD {i : Nat} {y : Str} {py : Pos} {spos : Pos} (hc : X.calm = true) (hN : X.N.Nodup) (hy : X.N[i]? = some y) (hyl : X.env.scope.names.lookup y = some .local)
    (hsw : swapsWith (.ListComp elt [⟨tg, iter, ifs, 0⟩] scope pos) (some (.Name y py)) spos.line X.env = pure true) (hi : DI X E tg iter wi w) (ok : BlkOk X.N X.env.scope scope own) (hu : ∀ j ∈ us, j ∈ own.map (·.2))
    (hg : ∀ (s : Shared) (H : Hp) (C : Addr) (cl : List (Str × Addr)) (fp : List Addr), DG (X.blk s H scope (compEnvC scope cl C X.env) fp) tg us g wg)
    (ht : ∀ (s : Shared) (H : Hp) (C : Addr) (cl : List (Str × Addr)) (fp : List Addr), DTs (X.blk s H scope (compEnvC scope cl C X.env) fp) EC ifs tt wt)
    (he : ∀ (s : Shared) (H : Hp) (C : Addr) (cl : List (Str × Addr)) (fp : List Addr), DE (X.blk s H scope (compEnvC scope cl C X.env) fp) EC elt te we)
    (hs : ∀ x, foldedSetIterable iter X.env x = pure x := by intro _; rfl) :
    PS X (.Assign [.Name y py] (.ListComp elt [⟨tg, iter, ifs, 0⟩] scope pos) spos) (tAsg (tLc wi g tt te (own.map (·.2))) (gName i)) ∧ SndE E (tLc wi g tt te (own.map (·.2))) (wLc w wg wt we (own.map (·.2))) :=
  ⟨ps_setLc hc hN hy hyl hsw hi.pi ok (fun s H C cl fp => (hg s H C cl fp).pg) (fun s H C cl fp => (ht s H C cl fp).pt) (fun s H C cl fp => (he s H C cl fp).pe) hs,
    snd_lc hi.so hu (hg X.s_0 X.H_0 0 [] []).so (ht X.s_0 X.H_0 0 [] []).so (he X.s_0 X.H_0 0 [] []).so⟩
theorem ds_lc {i : Nat} {st : Stmt} (h : PS X st (tAsg te (gName i)) ∧ SndE E te we) : DS X E st (tAsg te (gName i)) (wSet i we) := ⟨h.1, snd_set h.2⟩
theorem ds_lcO {i : Nat} {st : Stmt} (h : PS X st (tAsg te (gName i)) ∧ SndE E te we) : DS X E st (tAsg te (gName i)) (wSetO i we) := ⟨h.1, snd_setO h.2⟩
end
end DL
namespace DL
open PySem PySem.Spec PyProof.Rows L2
structure FnG (P : Program) (w : World) (K : PySem.W.Frag) (mg : Str → Option Value) (base : Heap) (gd : Bool) (k : Nat) (f : Addr) (fd : FuncData) (ps : List Str) (sp : Sp) : Prop where
  len : ∀ vs H Q E, sp vs H Q E → vs.length = ps.length
  run : ∀ (A : Around) (outer : List Env) (s : Shared) (H : Hp) (args : Args) (us : List Value) (vs : List V) (Q : VK) (E : XK),
    Room k A → (gd = true → A.guards = some []) → Env0 P w K mg base A outer s H → BindsTo s fd args (ps.zip us) → Vals vs us → sp vs H Q E →
    codeAny (model P w) A (.call (.ref f) args) (CR (L2.CX P w) outer P w H s Q E) s
theorem FnG.mono {P : Program} {w : World} {K : PySem.W.Frag} {mg : Str → Option Value} {base : Heap} {gd : Bool} {j k : Nat} {f : Addr} {fd : FuncData} {ps : List Str} {sp : Sp} (F : FnG P w K mg base gd j f fd ps sp) (h : j ≤ k) : FnG P w K mg base gd k f fd ps sp :=
  ⟨F.len, fun A outer s H args us vs Q E hr => F.run A outer s H args us vs Q E (hr.mono h)⟩
theorem guards_deeper (A : Around) (env : Env) : (A.deeper env).guards = A.guards := rfl
abbrev cxD (P : Program) (w : World) (K : PySem.W.Frag) (mg : Str → Option Value) (base : Heap) (N : List Str) (qual : Str) (scope : Scope) (f : Addr) (cd : Value) (A : Around) (outer : List Env) (s : Shared) (H : Hp) (E : XK) : Cx :=
  cxOf (L2.CX P w) P w K mg base N qual scope f cd A outer s H E
theorem fng_rawC {P : Program} {w : World} {K : PySem.W.Frag} {mg : Str → Option Value} {base : Heap} {gd : Bool} {k : Nat} {f : Addr} {x qual : Str} {st : Stmt} {fd : FuncData} {N ps : List Str} {sp : Sp} (F : Fun K x qual st f fd) (S : FnScope N ps (defScope st))
    (len : ∀ vs H Q E, sp vs H Q E → vs.length = ps.length)
    (hbody : ∀ (cdv : Value), fd.code = cdv → ∀ (A : Around) (outer : List Env) (s : Shared) (H : Hp) (vs : List V) (Q : VK) (E : XK), Room k (A.deeper (envOfC qual (defScope st) s.heap.objs.size f cdv)) → (gd = true → A.guards = some []) → sp vs H Q E →
      ∃ t, PSs (cxD P w K mg base N qual (defScope st) f cdv A outer s H E) (defBody st) t ∧ t { nx := fun _ H' => Q .non H', rt := Q } (start N vs) H) : FnG P w K mg base gd (k + 1) f fd ps sp := by
  obtain ⟨oc, od, kV, doc, pm, an, cdv, ct, osl, rfl, lk, hcd⟩ := F.ex
  refine ⟨len, fun A outer s H args us vs Q E hr hgd e0 hb r hsp => ?_⟩
  have hl := len _ _ _ _ hsp
  have at_ : ∀ b o, base.get? b = some o → s.heap.get? b = some o := fun b o e => (e0.bs b o e).1
  have KX : K.In s.heap := e0.mod.kin.keeps at_
  have kinds : ∀ y ∈ ps.zip us, (defScope st).names.lookup y.1 = some .local ∨ ((defScope st).names.lookup y.1 = some .cell ∧ ((cellsFrom (s.heap.objs.size + 1) (defScope st).names []).lookup y.1).isSome = true) := by
    rintro ⟨n, v⟩ hy
    exact (S.par n (List.of_mem_zip hy).1).imp id fun q => ⟨q, PySem.W.cellsFrom_some _ _ _ (.inl q)⟩
  refine codeAny_call_function hr.depth (KX _ _ lk) rfl S.co S.gen rfl (PySem.W.codeRec_of KX hcd) (hb _ _ _ _ ?_)
  refine wpAny_newFunctionEnv_cells S.kind kinds fun env he s1 y => ?_
  subst he
  refine ⟨(e0.mod.nolimit.keeps at_).keeps y.toInCall.keep, codeAny_func ?_⟩
  obtain ⟨t, ht, hq⟩ := hbody cdv rfl A outer s H vs Q E (hr.deeper _) hgd hsp
  have J : Inv (cxD P w K mg base N qual (defScope st) f cdv A outer s H E) [] (start N vs) H s1 := inv_start S hr.hd e0 hl r y
  refine wpAny_mono (ht.run [] s1 (start N vs) H _ J hq) (fun fl s' hs => ?_) fun e s' hs => hs
  cases fl with
  | ret u => obtain ⟨v, σ', H', J', rv, q⟩ := hs; exact ⟨v, H', J'.os, J'.bare, J'.base, J'.hok, rv, q⟩
  | next => obtain ⟨σ', H', J', q⟩ := hs; exact ⟨.non, H', J'.os, J'.bare, J'.base, J'.hok, rfl, q⟩
  | brk => obtain ⟨_, _, _, q⟩ := hs; exact q.elim
  | cont => obtain ⟨_, _, _, q⟩ := hs; exact q.elim
theorem fng_raw {P : Program} {w : World} {K : PySem.W.Frag} {mg : Str → Option Value} {base : Heap} {gd : Bool} {k : Nat} {f : Addr} {x qual : Str} {st : Stmt} {fd : FuncData} {N ps : List Str} {sp : Sp} (F : Fun K x qual st f fd) (S : FnScope N ps (defScope st))
    (len : ∀ vs H Q E, sp vs H Q E → vs.length = ps.length)
    (hbody : ∀ (cdv : Value) (A : Around) (outer : List Env) (s : Shared) (H : Hp) (vs : List V) (Q : VK) (E : XK), Room k (A.deeper (envOfC qual (defScope st) s.heap.objs.size f cdv)) → (gd = true → A.guards = some []) → sp vs H Q E →
      ∃ t, PSs (cxD P w K mg base N qual (defScope st) f cdv A outer s H E) (defBody st) t ∧ t { nx := fun _ H' => Q .non H', rt := Q } (start N vs) H) : FnG P w K mg base gd (k + 1) f fd ps sp := fng_rawC F S len fun cdv _ => hbody cdv
abbrev Ct := List Sl → List Own → (Ev → List Own → Prop) → (XD → List Own → Prop) → Prop
def CellsOk (ow : List Own) (F H : Hp) (fps : List (List Addr)) : Prop := AOk ⟨[], ow, 0⟩ [] F H fps
def spOf (m : Nat) (c : Ct) : Sp := fun vs H Q E => ∃ (args : List Sl) (ow : List Own) (F : Hp) (fps : List (List Addr)) (KQ : Ev → List Own → Prop) (KB : XD → List Own → Prop),
  args.length = m ∧ AOk ⟨args, ow, 0⟩ (vs.map some) F H fps ∧ c args ow KQ KB ∧
  (∀ r ow' v F' H', KQ r ow' → CellsOk ow' F' H' fps → Le F H fps.flatten F' H' fps.flatten → ValOk F' H' fps r v → NewOk H r v → Q v H') ∧
  (∀ x ow' d F' H', KB x ow' → CellsOk ow' F' H' fps → Le F H fps.flatten F' H' fps.flatten → XdOk F' H' fps x d → E x.cls d H')
theorem spOf_len {m : Nat} {c : Ct} : ∀ vs H Q E, spOf m c vs H Q E → vs.length = m := by
  rintro vs H Q E ⟨args, ow, F, fps, KQ, KB, h1, h2, _⟩
  have := h2.ln
  rw [List.length_map] at this
  exact this.trans h1
def outEv (a : AS) : Ev → Option Ev
  | .o k => if k < a.n then some (.o k) else match a.ow[k]? with
    | some (.ls xs) => some (.nl xs)
    | some (.dc kvs) => some (.nd kvs)
    | _ => none
  | r => some r
def a0 (N : List Str) (args : List Sl) (ow : List Own) : AS := ⟨args ++ List.replicate (N.length - args.length) .un, ow, ow.length⟩
def endsOf (KQ : Ev → List Own → Prop) (KB : XD → List Own → Prop) : AE :=
  { nx := fun a => KQ (.d .none) (a.ow.take a.n), rt := fun r a => ∃ r', outEv a r = some r' ∧ KQ r' (a.ow.take a.n), xb := fun x a => KB x (a.ow.take a.n) }
theorem start_ok {N : List Str} {args : List Sl} {ow : List Own} {vs : List V} {F H : Hp} {fps : List (List Addr)} (x : AOk ⟨args, ow, 0⟩ (vs.map some) F H fps) (hN : args.length ≤ N.length) : AOk (a0 N args ow) (L2.start N vs) F H fps where
  sub := x.sub
  nd := x.nd
  len := x.len
  own := x.own
  nf := x.nf
  ln := by
    have := x.ln
    rw [List.length_map] at this
    unfold L2.start a0
    simp only [List.length_append, List.length_map, List.length_replicate]
    have t : vs.length = args.length := this
    rw [t]
  sl := fun i s e => by
    have hl : vs.length = args.length := by have := x.ln; rw [List.length_map] at this; exact this
    unfold a0 at e
    unfold L2.start
    simp only at e
    by_cases hi : i < args.length
    · rw [List.getElem?_append_left hi] at e
      rw [List.getElem?_append_left (by rw [List.length_map, hl]; exact hi)]
      exact x.sl i s e
    · rw [List.getElem?_append_right (by omega)] at e
      have : s = .un := by
        have := List.mem_of_getElem? e
        exact List.eq_of_mem_replicate this
      subst this
      trivial
  nn := Nat.le_refl _
  tp := x.tp
theorem take_ok {a : AS} {σ : Sgm} {F H : Hp} {fps fps0 : List (List Addr)} (x : AOk a σ F H fps) (t : fps.take a.n = fps0) : CellsOk (a.ow.take a.n) F H fps0 where
  sub := x.sub
  nd := by
    rw [← t]
    have := x.nd
    rw [← List.take_append_drop a.n fps, List.flatten_append] at this
    exact (List.nodup_append.mp this).1
  len := by rw [← t]; show (fps.take a.n).length = (a.ow.take a.n).length; rw [List.length_take, List.length_take, x.len]
  own := fun k fp c e1 e2 => by
    rw [← t] at e1
    have e2' : (a.ow.take a.n)[k]? = some c := e2
    rw [List.getElem?_take] at e1 e2'
    split at e1
    · rename_i h
      rw [if_pos h] at e2'
      exact x.own k fp c e1 e2'
    · cases e1
  nf := fun p hp => by
    rw [← t] at hp
    obtain ⟨l, hl, hm⟩ := List.mem_flatten.mp hp
    exact x.nf p (List.mem_flatten.mpr ⟨l, List.mem_of_mem_take hl, hm⟩)
  ln := rfl
  sl := fun i s e => by simp at e
  nn := Nat.zero_le _
  tp := x.tp
theorem le_take {F H F' H' : Hp} {P : List Addr} {fps : List (List Addr)} {n : Nat} {fps0 : List (List Addr)} (l : Le F H P F' H' fps.flatten) (t : fps.take n = fps0) : Le F H P F' H' fps0.flatten :=
  ⟨l.fr, l.hp, l.nw, fun b m => l.pw b (by
    rw [← t] at m
    obtain ⟨z, hz, hm⟩ := List.mem_flatten.mp m
    exact List.mem_flatten.mpr ⟨z, List.mem_of_mem_take hz, hm⟩), l.ex⟩
theorem out_ok {a : AS} {σ : Sgm} {F0 H0 F H : Hp} {fps fps0 : List (List Addr)} (x : AOk a σ F H fps) (l : Le F0 H0 fps0.flatten F H fps.flatten) (t : fps.take a.n = fps0) {r r' : Ev} {v : V} (h : ValOk F H fps r v) (w : NewOk H0 r v) (e : outEv a r = some r') :
    ValOk F H fps0 r' v ∧ NewOk H0 r' v := by
  have sm : ∀ p, p ∉ fps.flatten → p ∉ fps0.flatten := fun p hn m => hn (by
    rw [← t] at m
    obtain ⟨z, hz, hm⟩ := List.mem_flatten.mp m
    exact List.mem_flatten.mpr ⟨z, List.mem_of_mem_take hz, hm⟩)
  have late : ∀ {k : Nat} {p : Addr} {ps : List Addr}, a.n ≤ k → fps[k]? = some (p :: ps) → p ∉ fps0.flatten ∧ H0 p = none := fun {k p ps} hk e1 => by
    have hn : p ∉ fps0.flatten := fun m => by
      rw [← t] at m
      have nd := x.nd
      rw [← List.take_append_drop a.n fps, List.flatten_append] at nd
      refine (List.nodup_append.mp nd).2.2 p m p ?_ rfl
      refine List.mem_flatten.mpr ⟨p :: ps, ?_, by simp⟩
      refine List.mem_iff_getElem?.mpr ⟨k - a.n, ?_⟩
      rw [List.getElem?_drop]
      rw [show a.n + (k - a.n) = k by omega]
      exact e1
    exact ⟨hn, (l.pw p (flat_mem e1 (by simp))).elim (fun z => absurd z hn) id⟩
  cases r with
  | d y => cases e; exact ⟨h, trivial⟩
  | v y => cases e; exact ⟨h, trivial⟩
  | er y => cases e; exact ⟨h, trivial⟩
  | nl xs => cases e; obtain ⟨p, vs, e1, hp, f, n, r⟩ := h; exact ⟨⟨p, vs, e1, hp, f, sm p n, r⟩, w⟩
  | nd xs => cases e; obtain ⟨p, e1, hp, f, n⟩ := h; exact ⟨⟨p, e1, hp, f, sm p n⟩, w⟩
  | o k =>
    obtain ⟨p, ps, e1, e2⟩ := h
    unfold outEv at e
    simp only at e
    split at e
    · rename_i hk
      cases e
      refine ⟨⟨p, ps, e1, ?_⟩, trivial⟩
      rw [← t, List.getElem?_take, if_pos hk]
      exact e2
    · rename_i hk
      obtain ⟨hn, h0⟩ := late (by omega) e2
      split at e
      · rename_i xs hx
        cases e
        obtain ⟨q, vs, z1, hq, r⟩ := own_at x e2 hx
        cases z1
        refine ⟨⟨p, vs, e1, hq, x.nf p (flat_mem e2 (by simp)), hn, r⟩, fun q' e' => ?_⟩
        rw [e1] at e'; cases e'; exact h0
      · rename_i kvs hx
        cases e
        obtain ⟨q, z1, hq⟩ := own_at x e2 hx
        cases z1
        refine ⟨⟨p, e1, hq, x.nf p (flat_mem e2 (by simp)), hn⟩, fun q' e' => ?_⟩
        rw [e1] at e'; cases e'; exact h0
      · cases e
theorem xd_take {F H : Hp} {fps fps0 : List (List Addr)} {n : Nat} {x : XD} {d : Option Addr} (t : fps.take n = fps0) (h : XdOk F H fps x d) : XdOk F H fps0 x d := by
  unfold XdOk at h ⊢
  exact h
theorem fngC {P : Program} {w : World} {K : PySem.W.Frag} {mg : Str → Option Value} {base : Heap} {gd : Bool} {k : Nat} {f : Addr} {x qual : Str} {st : Stmt} {fd : FuncData} {N ps : List Str} {c : Ct} {ws : WS} (F : Fun K x qual st f fd) (S : FnScope N ps (defScope st))
    (hbody : ∀ (cdv : Value), fd.code = cdv → ∀ (A : Around) (outer : List Env) (s : Shared) (H : Hp) (E : XK), Room k (A.deeper (envOfC qual (defScope st) s.heap.objs.size f cdv)) → (gd = true → A.guards = some []) →
      ∃ ts, DSs (cxD P w K mg base N qual (defScope st) f cdv A outer s H E) E (defBody st) ts ws)
    (hc : ∀ args ow KQ KB, args.length = ps.length → c args ow KQ KB → ws (a0 N args ow) (endsOf KQ KB)) : FnG P w K mg base gd (k + 1) f fd ps (spOf ps.length c) := by
  refine fng_rawC F S spOf_len fun cdv hcv A outer s H vs Q E hr hgd h => ?_
  obtain ⟨args, ow, F0, fps, KQ, KB, h1, h2, h3, h4, h5⟩ := h
  obtain ⟨ts, D⟩ := hbody cdv hcv A outer s H E hr hgd
  have hN : args.length ≤ N.length := by
    have := congrArg List.length S.pre
    rw [List.length_take] at this
    omega
  have t0 : fps.take ow.length = fps := by have : fps.length = ow.length := h2.len; rw [← this, List.take_length]
  refine ⟨ts, D.ps, D.so _ _ (hc args ow KQ KB h1 h3) _ F0 H fps (start_ok h2 hN) _ ⟨fun a' σ' F' H' fps' k1 x' l t n => ?_, fun r a' σ' v F' H' fps' k1 x' l t n o w => ?_, fun _ _ _ _ _ z => z.elim, fun _ _ _ _ _ z => z.elim, fun y a' σ' d F' H' fps' k1 x' l t n o => ?_⟩⟩
  · have tn : fps'.take a'.n = fps := by rw [n]; exact t.trans t0
    exact h4 _ _ .non F' H' k1 (take_ok x' tn) (le_take l tn) .non trivial
  · have tn : fps'.take a'.n = fps := by rw [n]; exact t.trans t0
    obtain ⟨r', e1, k1⟩ := k1
    obtain ⟨o1, o2⟩ := out_ok x' l tn o w e1
    exact h4 _ _ v F' H' k1 (take_ok x' tn) (le_take l tn) o1 o2
  · have tn : fps'.take a'.n = fps := by rw [n]; exact t.trans t0
    exact h5 y _ d F' H' k1 (take_ok x' tn) (le_take l tn) (xd_take tn o)
theorem fng {P : Program} {w : World} {K : PySem.W.Frag} {mg : Str → Option Value} {base : Heap} {gd : Bool} {k : Nat} {f : Addr} {x qual : Str} {st : Stmt} {fd : FuncData} {N ps : List Str} {c : Ct} {ws : WS} (F : Fun K x qual st f fd) (S : FnScope N ps (defScope st))
    (hbody : ∀ (cdv : Value) (A : Around) (outer : List Env) (s : Shared) (H : Hp) (E : XK), Room k (A.deeper (envOfC qual (defScope st) s.heap.objs.size f cdv)) → (gd = true → A.guards = some []) →
      ∃ ts, DSs (cxD P w K mg base N qual (defScope st) f cdv A outer s H E) E (defBody st) ts ws)
    (hc : ∀ args ow KQ KB, args.length = ps.length → c args ow KQ KB → ws (a0 N args ow) (endsOf KQ KB)) : FnG P w K mg base gd (k + 1) f fd ps (spOf ps.length c) := fngC F S (fun cdv _ => hbody cdv) hc
end DL
namespace DL
open PySem PySem.Spec PyProof.Rows L2
section
variable {X : Cx} {k : Nat} {f : Addr} {fd : FuncData} {ps ks : List Str} {sp : Sp} {E : XK} {x : Str} {p pos : Pos} {e : Expr} {es : List Expr} {kws : List Keyword} {ta tk : TA} {wa wk : WA} {m : Nat} {c : Ct}
abbrev PassG (X : Cx) (E : XK) : Prop := Passes (L2.CX X.prog X.w) X E
theorem run_g {pins : List (Addr × Obj)} {σ : Sgm} {H : Hp} {s : Shared} {Q : VK} {args : Args} {us : List Value} {vs : List V} (F : FnG X.prog X.w X.K X.mg X.base gd k f fd ps sp) (hr : Room k X.A) (hgd : gd = true → X.A.guards = some []) (hx : PassG X E)
    (hb : BindsTo s fd args (ps.zip us)) (I : Inv X pins σ H s) (r : Vals vs us) (h : sp vs H Q E) : wpAny (model X.prog X.w) X.A (call (.ref f) args.pos args.kw) (EP X pins σ Q) X.xe s := by
  refine wpAny_call (codeAny_mono (F.run X.A X.stack s H args us vs Q E hr hgd I.env0 hb r h) fun r s' hq => ?_)
  cases r with
  | error e => exact hx pins σ H s e s' I hq
  | ok fl =>
    cases fl with
    | ret u => exact I.after hq
    | next => exact hq.elim
    | brk => exact hq.elim
    | cont => exact hq.elim
def tCallG (sp : Sp) (E : XK) (t : TA) : TE := fun σ H Q => t σ H fun vs H1 => sp vs H1 Q E
theorem pe_callG (F : FnG X.prog X.w X.K X.mg X.base gd k f fd ps sp) (hr : Room k X.A) (hgd : gd = true → X.A.guards = some []) (hx : PassG X E) (hg : Gl X x) (hm : X.mg x = some (.ref f)) (hk : PySem.W.keepIn X.K (.ref f) = true) (hb : Binds X.K fd ps [])
    (ha : PA X (e :: es) ta) (hdb : (x == ("__debug__" : Str)) = false := by decide) (he : starEach (e :: es) X.env = (false, eval e X.env) :: starEach es X.env := by rfl) (hpl : (backTo pos (starEach es X.env)).any (·.1) = false := by rfl) :
    PE X (.Call (.Name x p) (e :: es) [] pos) (tCallG sp E ta) := by
  refine ⟨fun pins s σ H Q I h => wpAny_Call_Name_kw (ld_glob I hg hm ?_ hdb)⟩
  refine PySem.W.callWith_K (h₀ := X.base) I.ok.mod.kin hk (thn (ha.run pos pins s σ H _ I h) fun us s1 ⟨vs, H1, I1, r, q⟩ => ⟨I1.kIn, ?_⟩) he hpl
  have hl : us.length = ps.length := by rw [← r.length]; exact F.len _ _ _ _ q
  have hbb := hb s1 us I1.kIn (by rw [List.append_nil]; exact hl)
  rw [List.append_nil] at hbb
  exact run_g (args := ⟨us, []⟩) F hr hgd hx hbb I1 r q
def toSl : Ev → Option Sl := keep
def toSls : List Ev → Option (List Sl)
  | [] => some []
  | x :: xs => match keep x, toSls xs with
    | some d, some ds => some (d :: ds)
    | _, _ => none
theorem keep_one {a : AS} {σ : Sgm} {F H H0 : Hp} {fps : List (List Addr)} (x : AOk a σ F H fps) {r : Ev} {v : V} {s : Sl} (h : ValW F H fps r v) (h2 : ∀ k, r = .o k → ∃ p ps, v = .ref p ∧ fps[k]? = some (p :: ps)) (h3 : ∀ y, r = .v y → v = y) (n : NewOk H0 r v) (e : keep r = some s) :
    ∃ F', Fz a σ F H fps H0 F' ∧ SlOk F' fps s (some v) := by
  cases r with
  | d y => cases e; exact ⟨F, .refl x, v, rfl, h⟩
  | nl xs => cases e; obtain ⟨F2, f, r⟩ := freeze_one x h n (d := .list xs) rfl; exact ⟨F2, f, v, rfl, r⟩
  | nd xs => cases e
  | o k => cases e; obtain ⟨p, ps, rfl, r⟩ := h2 k rfl; exact ⟨F, .refl x, p, ps, rfl, r⟩
  | v y => cases e; cases h3 y rfl; exact ⟨F, .refl x, rfl⟩
  | er y => cases e; exact ⟨F, .refl x, v, rfl, h⟩
def ValK (F H : Hp) (fps : List (List Addr)) (r : Ev) (v : V) : Prop := ValW F H fps r v ∧ (∀ k, r = .o k → ∃ p ps, v = .ref p ∧ fps[k]? = some (p :: ps)) ∧ ∀ y, r = .v y → v = y
theorem valK {F H : Hp} {fps : List (List Addr)} {r : Ev} {v : V} (h : ValOk F H fps r v) : ValK F H fps r v :=
  ⟨h.w, fun k e => by subst e; exact h, fun y e => by subst e; exact h⟩
theorem keep_all {a : AS} {σ : Sgm} {H H0 : Hp} {fps : List (List Addr)} : ∀ {rs : List Ev} {vs : List V} {ss : List Sl} {F : Hp}, AOk a σ F H fps → Paired (ValK F H fps) rs vs → NewsOk H0 rs vs → toSls rs = some ss →
    ∃ F', Fz a σ F H fps H0 F' ∧ Paired (fun s v => SlOk F' fps s (some v)) ss vs
  | [], [], ss, F, x, .nil, .nil, e => by cases e; exact ⟨F, .refl x, .nil⟩
  | r :: rs, v :: vs, ss, F, x, .cons h hr, .cons n nr _, e => by
    unfold toSls at e
    cases e1 : keep r with
    | none => rw [e1] at e; simp at e
    | some s1 =>
      cases e2 : toSls rs with
      | none => rw [e1, e2] at e; simp at e
      | some s2 =>
        rw [e1, e2] at e
        cases e
        obtain ⟨F1, f1, r1⟩ := keep_one x h.1 h.2.1 h.2.2 n e1
        have hr1 : Paired (ValK F1 H fps) rs vs := Paired.mapP hr fun _ _ z => ⟨z.1.mono f1.sub, z.2⟩
        obtain ⟨F2, f2, r2⟩ := keep_all f1.ok hr1 nr e2
        exact ⟨F2, f1.trans f2, .cons (r1.mono f2.sub) r2⟩
theorem slots_ok {F H : Hp} {fps : List (List Addr)} {a : AS} {σ : Sgm} (x : AOk a σ F H fps) {ss : List Sl} {vs : List V} (h : Paired (fun s v => SlOk F fps s (some v)) ss vs) : AOk ⟨ss, a.ow, 0⟩ (vs.map some) F H fps where
  sub := x.sub
  nd := x.nd
  len := x.len
  own := x.own
  nf := x.nf
  ln := by rw [List.length_map]; exact (Paired.len h).symm
  sl := by
    have go : ∀ {ss : List Sl} {vs : List V}, Paired (fun s v => SlOk F fps s (some v)) ss vs → ∀ (i : Nat) (s : Sl), ss[i]? = some s → SlOk F fps s ((vs.map some)[i]?.join) := by
      intro ss vs h
      induction h with
      | nil => intro i s e; simp at e
      | cons h1 _ ih =>
        intro i s e
        cases i with
        | zero => simp at e; subst e; exact h1
        | succ i => simp only [List.getElem?_cons_succ, List.map_cons] at e ⊢; exact ih i s e
    exact go h
  nn := Nat.zero_le _
  tp := x.tp
theorem back_ok {F H F' H' : Hp} {fps : List (List Addr)} {a : AS} {σ : Sgm} {ow : List Own} (x : AOk a σ F H fps) (s : Sub F F') (c : CellsOk ow F' H' fps) : AOk { a with ow := ow } σ F' H' fps where
  sub := c.sub
  nd := c.nd
  len := c.len
  own := c.own
  nf := c.nf
  ln := x.ln
  sl := fun i t e => (x.sl i t e).mono s
  nn := by
    have h1 := x.nn
    have h2 := x.len
    have h3 : fps.length = ow.length := c.len
    show a.n ≤ ow.length
    omega
  tp := c.tp
def wCall (c : Ct) (m : Nat) (wa : WA) : WE := fun a K B => wa a (fun rs a1 => ∃ ss, toSls rs = some ss ∧ ss.length = m ∧ c ss a1.ow (fun r ow => K r { a1 with ow := ow }) (fun x ow => B x { a1 with ow := ow })) B
theorem call_end {a1 : AS} {n : Nat} {σ : Sgm} {F H F2 H1 : Hp} {fps : List (List Addr)} {K : Ev → AS → Prop} {B : XD → AS → Prop} {Q : VK} {ss : List Sl} {vs : List V} (n1 : a1.n = n) (l1 : Le F H fps.flatten F2 H1 fps.flatten) (x2 : AOk a1 σ F2 H1 fps)
    (q : KOk K n σ F H fps Q) (b : BOk E B n σ F H fps) (h : Paired (fun s v => SlOk F2 fps s (some v)) ss vs) (hm : ss.length = m) (k : c ss a1.ow (fun r ow => K r { a1 with ow := ow }) (fun x ow => B x { a1 with ow := ow })) : spOf m c vs H1 Q E :=
  ⟨ss, a1.ow, F2, fps, _, _, hm, slots_ok x2 h, k, fun r ow' v F' H' k1 c1 l2 o w => q r _ v F' H' k1 n1 (back_ok x2 l2.fr c1) (l1.trans l2) o (w.back l1),
    fun y ow' d F' H' k1 c1 l2 o => b y _ d F' H' k1 n1 (back_ok x2 l2.fr c1) (l1.trans l2) o⟩
theorem de_call (F : FnG X.prog X.w X.K X.mg X.base gd k f fd ps (spOf m c)) (hr : Room k X.A) (hgd : gd = true → X.A.guards = some []) (hx : PassG X E) (hg : Gl X x) (hm : X.mg x = some (.ref f)) (hk : PySem.W.keepIn X.K (.ref f) = true) (hb : Binds X.K fd ps [])
    (ha : DA X E (e :: es) ta wa) (hdb : (x == ("__debug__" : Str)) = false := by decide) (he : starEach (e :: es) X.env = (false, eval e X.env) :: starEach es X.env := by rfl) (hpl : (backTo pos (starEach es X.env)).any (·.1) = false := by rfl) :
    DE X E (.Call (.Name x p) (e :: es) [] pos) (tCallG (spOf m c) E ta) (wCall c m wa) := ⟨pe_callG F hr hgd hx hg hm hk hb ha.pa hdb he hpl, by
  intro a K B k σ F H fps x Q q b
  refine ha.so a _ B k σ F H fps x _ (fun rs a1 vs F1 H1 ⟨ss, e1, hl, k1⟩ n1 x1 l1 o1 w1 => ?_) b
  obtain ⟨F2, f, h⟩ := keep_all (H0 := H) x1 (Paired.mapP o1 fun _ _ z => valK z) w1 e1
  exact call_end n1 (f.le l1) f.ok q b h hl k1⟩
structure DK (X : Cx) (E : XK) (kws : List Keyword) (ta : TA) (w : WA) : Prop where
  pk : PK X kws ta
  so : SndA E ta w
theorem dk_nil : DK X E [] tNil wNil := ⟨pk_nil, (da_nil (X := X) (E := E)).so⟩
theorem dk_cons {nm : Option Str} {kpos : Pos} {te : TE} {we : WE} (ha : DE X E e te we) (hr : DK X E kws tk wk) : DK X E (⟨nm, e, kpos⟩ :: kws) (tCons te tk) (wCons we wk) := ⟨pk_cons ha.pe hr.pk, by
  intro a K B k σ F H fps x Q q b
  refine ha.so a _ B k σ F H fps x _ (fun r1 a1 v1 F1 H1 k1 n1 x1 l1 o1 w1 => ?_) b
  refine hr.so a1 _ B k1 σ F1 H1 fps x1 _ (fun rs a2 vs F2 H2 k2 n2 x2 l2 o2 w2 => ?_) (by rw [n1]; exact b.le l1)
  exact q _ a2 _ F2 H2 k2 (n2.trans n1) x2 (l1.trans l2) (.cons (o1.le l2) o2) (.cons w1 (w2.backs l1) (w2.apart o1))⟩
end
def pick {α : Type} (d : α) (perm : List Nat) (xs : List α) : List α := perm.map fun i => xs.getD i d
theorem pick_rel {α β : Type} {R : α → β → Prop} {d : α} {d' : β} (hd : R d d') {xs : List α} {ys : List β} (h : Paired R xs ys) : ∀ perm : List Nat, Paired R (pick d perm xs) (pick d' perm ys)
  | [] => .nil
  | i :: perm => by
    refine .cons ?_ (pick_rel hd h perm)
    have go : ∀ {xs : List α} {ys : List β}, Paired R xs ys → ∀ i : Nat, R (xs.getD i d) (ys.getD i d') := by
      intro xs ys h
      induction h with
      | nil => intro i; simpa using hd
      | cons h1 _ ih =>
        intro i
        cases i with
        | zero => simpa using h1
        | succ i => simpa using ih i
    exact go h i
def KBind (fd : FuncData) (ps ks : List Str) (perm : List Nat) : Prop := ∀ (s : Shared) (ws : List Value), ws.length = ks.length → BindsTo s fd ⟨[], ks.zip ws⟩ (ps.zip (pick .none perm ws))
theorem kbind_of {K : PySem.W.Frag} {x qual : Str} {st : Stmt} {f : Addr} {fd : FuncData} {ps ks : List Str} {perm : List Nat} (F : Fun K x qual st f fd)
    (h : ∀ (kV doc pm : Value) (an : Option Addr) (cdv ct : Value) (ws : List Value), ws.length = ks.length → bindArgs (PySem.W.fnOf x qual (defArgs st) (defBody st) (defScope st) .none kV doc pm an cdv ct) ⟨[], ks.zip ws⟩ = pure (ps.zip (pick .none perm ws))) : KBind fd ps ks perm := by
  obtain ⟨oc, od, kV, doc, pm, an, cdv, ct, osl, rfl, lk, hcd⟩ := F.ex
  exact fun s ws hl => .of_eq (h kV doc pm an cdv ct ws hl)
def wCallK (c : Ct) (m : Nat) (perm : List Nat) (wk : WA) : WE := fun a K B => wk a (fun zs a2 => ∃ ss, toSls zs = some ss ∧ ss.length = perm.length ∧ perm.length = m ∧
  c (pick .un perm ss) a2.ow (fun r ow => K r { a2 with ow := ow }) (fun x ow => B x { a2 with ow := ow })) B
section
variable {X : Cx} {k : Nat} {f : Addr} {fd : FuncData} {ps ks : List Str} {E : XK} {x : Str} {p pos : Pos} {kws : List Keyword} {tk : TA} {wk : WA} {m : Nat} {c : Ct} {perm : List Nat}
def tCallGK (sp : Sp) (perm : List Nat) (n : Nat) (E : XK) (tk : TA) : TE := fun σ H Q => tk σ H fun zs H2 => zs.length = n ∧ sp (pick .non perm zs) H2 Q E
theorem pe_callGK {sp : Sp} (F : FnG X.prog X.w X.K X.mg X.base gd k f fd ps sp) (hr : Room k X.A) (hgd : gd = true → X.A.guards = some []) (hx : PassG X E) (hg : Gl X x) (hm : X.mg x = some (.ref f)) (hk : PySem.W.keepIn X.K (.ref f) = true) (hb : KBind fd ps ks perm)
    (hkw : PK X kws tk) (hall : (backToKw pos (keywordEach kws X.env)).all (·.1.isSome) = true := by rfl) (hks : (backToKw pos (keywordEach kws X.env)).filterMap (·.1) = ks := by rfl) (hdb : (x == ("__debug__" : Str)) = false := by decide)
    (hpl : ((backTo pos (starEach [] X.env)).any (·.1) || (backToKw pos (keywordEach kws X.env)).any (·.1.isNone)) = false := by rfl) :
    PE X (.Call (.Name x p) [] kws pos) (tCallGK sp perm ks.length E tk) := by
  refine ⟨fun pins s σ H Q I h => wpAny_Call_Name_kw (ld_glob I hg hm ?_ hdb)⟩
  refine PySem.W.callWith_KW0 (h₀ := X.base) I.ok.mod.kin hk hall ?_ hpl
  refine thn (hkw.run pos pins s σ H _ I h) fun ws s2 ⟨zs, H2, I2, rz, hl, q2⟩ => ⟨I2.kIn, ?_⟩
  rw [hks]
  exact run_g (args := ⟨[], ks.zip ws⟩) F hr hgd hx (hb s2 ws (by rw [← rz.length]; exact hl)) I2 (pick_rel (R := RelV) (d := V.non) (d' := Value.none) rfl rz perm) q2
theorem de_callK (F : FnG X.prog X.w X.K X.mg X.base gd k f fd ps (spOf m c)) (hr : Room k X.A) (hgd : gd = true → X.A.guards = some []) (hx : PassG X E) (hg : Gl X x) (hm : X.mg x = some (.ref f)) (hk : PySem.W.keepIn X.K (.ref f) = true) (hb : KBind fd ps ks perm)
    (hkw : DK X E kws tk wk) (hpk : perm.length = ks.length := by rfl) (hall : (backToKw pos (keywordEach kws X.env)).all (·.1.isSome) = true := by rfl) (hks : (backToKw pos (keywordEach kws X.env)).filterMap (·.1) = ks := by rfl) (hdb : (x == ("__debug__" : Str)) = false := by decide)
    (hpl : ((backTo pos (starEach [] X.env)).any (·.1) || (backToKw pos (keywordEach kws X.env)).any (·.1.isNone)) = false := by rfl) :
    DE X E (.Call (.Name x p) [] kws pos) (tCallGK (spOf m c) perm ks.length E tk) (wCallK c m perm wk) := ⟨pe_callGK F hr hgd hx hg hm hk hb hkw.pk hall hks hdb hpl, by
  intro a K B k σ F H fps x Q q b
  refine hkw.so a _ B k σ F H fps x _ (fun rs a1 vs F1 H1 ⟨ss, e1, hl, hp, k1⟩ n1 x1 l1 o1 w1 => ?_) b
  obtain ⟨F2, f, h⟩ := keep_all (H0 := H) x1 (Paired.mapP o1 fun _ _ z => valK z) w1 e1
  refine ⟨by rw [← Paired.len h, hl, hpk], ?_⟩
  exact call_end n1 (f.le l1) f.ok q b (pick_rel (R := fun s v => SlOk F2 fps s (some v)) (d := Sl.un) (d' := V.non) trivial h perm) (by unfold pick; rw [List.length_map]; exact hp) k1⟩
end
end DL
namespace DL
open PySem PySem.Spec PyProof.Rows L2
section
variable {X : Cx} {E : XK} {pos p : Pos} {ea eb ec : Expr} {ta tb tc : TE} {wa wb wc : WE}
theorem de_chain {op op' : CmpOp} {r r' : R2} {g g' : G2} (o : OpR X (compareOp op) r ∧ R2S r g) (o' : OpR X (compareOp op') r' ∧ R2S r' g') (ha : DE X E ea ta wa) (hb : DE X E eb tb wb) (hc : DE X E ec tc wc)
    (hm : lastMarks [op, op'] [eb, ec] = false := by with_unfolding_all rfl) : DE X E (.Compare ea [op, op'] [eb, ec] pos) (tChain r r' ta tb tc) (wChain g g' wa wb wc) := ⟨pe_chain o.1 o'.1 ha.pe hb.pe hc.pe hm, snd_chain o.2 o'.2 ha.so hb.so hc.so⟩
theorem dt_chain {op op' : CmpOp} {r r' : R2} {g g' : G2} (o : OpR X (compareOp op) r ∧ R2S r g) (o' : OpR X (compareOp op') r' ∧ R2S r' g') (ha : DE X E ea ta wa) (hb : DE X E eb tb wb) (hc : DE X E ec tc wc)
    (hm : lastMarks [op, op'] [eb, ec] = false := by with_unfolding_all rfl) : DT X E (.Compare ea [op, op'] [eb, ec] pos) (tTest (tChain r r' ta tb tc)) (wTst (wChain g g' wa wb wc)) := ⟨pt_chain o.1 o'.1 ha.pe hb.pe hc.pe hm, snd_tst (snd_chain o.2 o'.2 ha.so hb.so hc.so)⟩
def wNeg (wa : WE) : WE := fun a K B => wa a (fun r a1 => ∃ i, vw a1 r = some (.int i) ∧ K (.d (.int (-i))) a1) B
theorem de_neg (ha : DE X E ea ta wa) : DE X E (.UnaryOp .USub ea pos) (tUn (rU fun i => .int (-i)) ta) (wNeg wa) := ⟨pe_un un_neg ha.pe, by
  intro a K B k σ F H fps x Q q b
  refine ha.so a _ B k σ F H fps x _ (fun r1 a1 v1 F1 H1 ⟨i, e1, k1⟩ n1 x1 l1 o1 w1 => ?_) b
  exact ⟨i, vw_int x1 o1 e1, q _ a1 _ F1 H1 k1 n1 x1 l1 (.int _) trivial⟩⟩
theorem rg_rep {F : Hp} (a b : Int) : RepAll F (rgV a b) (rangeD a (b - a).toNat) := by
  unfold rgV rangeD
  have go : ∀ ns : List Nat, RepAll F (ns.map fun (i : Nat) => V.int (a + (i : Nat))) (ns.map fun (i : Nat) => PyData.int (a + i)) := by
    intro ns
    induction ns with
    | nil => exact .nil
    | cons n ns ih => exact .cons (.int _) ih
  exact go _
def wLstRg (wa : WE) : WE := fun a K B => wa a (fun r a1 => ∃ n, vw a1 r = some (.int n) ∧ 0 ≤ n ∧ n ≤ 100000 ∧ K (.nl (rangeD 0 n.toNat)) a1) B
theorem de_listRg {p1 p2 pos1 : Pos} (hc : X.calm = true) (hg : Gl X "list") (hm : X.mg "list" = none) (hg2 : Gl X "range") (hm2 : X.mg "range" = none) (ha : DE X E ea ta wa)
    (na : starEach [ea] X.env = (false, eval ea X.env) :: starEach [] X.env := by rfl) (na2 : starEach [Expr.Call (.Name "range" p1) [ea] [] p2] X.env = (false, eval (Expr.Call (.Name "range" p1) [ea] [] p2) X.env) :: starEach [] X.env := by rfl) :
    DE X E (.Call (.Name "list" p) [.Call (.Name "range" p1) [ea] [] p2] [] pos) (tLstRg (tRg1 ta)) (wLstRg wa) := ⟨pe_listRg hc hg hm (prg_1 hg2 hm2 ha.pe na) na2, by
  intro a K B k σ F H fps x Q q b
  refine ha.so a _ B k σ F H fps x _ (fun r1 a1 v1 F1 H1 ⟨n, e1, h0, h1, k1⟩ n1 x1 l1 o1 w1 => ?_) b
  refine ⟨n, vw_int x1 o1 e1, .of_le (by omega) (by omega) (by omega) h0, fun l hl => ?_⟩
  have r := rg_rep (F := F1) 0 n
  rw [Int.sub_zero] at r
  exact q _ a1 _ _ _ k1 n1 (x1.newH hl) (l1.trans (Le.newH hl)) ⟨l, _, rfl, upd_same, x1.sub.gone hl, x1.fresh hl, r⟩ fun p' e' => by cases e'; exact l1.ex _ hl⟩
end
section
variable {a : AS} {σ : Sgm} {F H : Hp} {fps : List (List Addr)}
theorem cell_one (x : AOk a σ F H fps) {k : Nat} {p : Addr} {ps : List Addr} {xs : List D} (h : fps[k]? = some (p :: ps)) (e : a.ow[k]? = some (.ls xs)) : ps = [] ∧ ∃ vs, H p = some (.lst vs) ∧ RepAll F vs xs := by
  obtain ⟨q, vs, e1, e2, r⟩ := own_at x h e
  cases e1
  exact ⟨rfl, vs, e2, r⟩
theorem cells_apart (x : AOk a σ F H fps) {k j : Nat} {fp fq : List Addr} {p : Addr} (h : fps[k]? = some fp) (h2 : fps[j]? = some fq) (m : p ∈ fp) (m2 : p ∈ fq) : k = j := by
  have go : ∀ (l : List (List Addr)) (k j : Nat) (fp fq : List Addr), l.flatten.Nodup → l[k]? = some fp → l[j]? = some fq → p ∈ fp → p ∈ fq → k = j := by
    intro l
    induction l with
    | nil => intro k j fp fq _ e; simp at e
    | cons z zs ih =>
      intro k j fp fq nd e1 e2 m1 m2
      rw [List.flatten_cons] at nd
      obtain ⟨_, nd2, nd3⟩ := List.nodup_append.mp nd
      cases k with
      | zero =>
        cases j with
        | zero => rfl
        | succ j =>
          simp at e1 e2
          subst e1
          exact absurd rfl (nd3 p m1 p (List.mem_flatten.mpr ⟨fq, List.mem_of_getElem? e2, m2⟩))
      | succ k =>
        cases j with
        | zero =>
          simp at e1 e2
          subst e2
          exact absurd rfl (nd3 p m2 p (List.mem_flatten.mpr ⟨fp, List.mem_of_getElem? e1, m1⟩))
        | succ j => simp at e1 e2; exact congrArg (· + 1) (ih k j fp fq nd2 e1 e2 m1 m2)
  exact go fps k j fp fq x.nd h h2 m m2
theorem AOk.setCell (x : AOk a σ F H fps) {k : Nat} {p : Addr} {o : HO} {c c0 : Own} (h : fps[k]? = some [p]) (e : a.ow[k]? = some c0) (hc : OwnOk F (upd H p o) [p] c) (ht : ∀ xs, o ≠ .tup xs := by intro _ z; cases z) :
    AOk { a with ow := a.ow.set k c } σ F (upd H p o) fps ∧ Le F H fps.flatten F (upd H p o) fps.flatten := by
  have hm : p ∈ fps.flatten := flat_mem h (by simp)
  have nf := x.nf p hm
  refine ⟨⟨x.sub.mut nf, x.nd, by rw [List.length_set]; exact x.len, fun j fp c' e1 e2 => ?_, x.nf, x.ln, x.sl, by rw [List.length_set]; exact x.nn, tp_upd x.tp ht⟩,
    Sub.refl F, fun b u n e => ?_, fun b z => .inl z, fun b z => .inl z, fun b z => ?_⟩
  · have e2' : (a.ow.set k c)[j]? = some c' := e2
    by_cases hj : k = j
    · subst hj
      rw [List.getElem?_set_self (List.getElem?_eq_some_iff.mp e).1] at e2'
      cases e2'
      rw [h] at e1
      cases e1
      exact hc
    · rw [List.getElem?_set_ne hj] at e2'
      refine (x.own j fp c' e1 e2').mono (Sub.refl F) fun q hq u hu => ?_
      rw [upd_ne (fun z => hj (cells_apart x h e1 (by simp [z]) hq))]
      exact hu
  · rw [upd_ne (fun z => n (by rw [z]; exact hm))]; exact e
  · by_cases hb : b = p
    · subst hb; rw [upd_same] at z; cases z
    · rw [upd_ne hb] at z; exact z
end
abbrev GM := AS → Nat → List Ev → (Ev → AS → Prop) → Prop
def RMS (r : V → List V → Hp → VK → Prop) (g : GM) : Prop := ∀ (E : XK) (a : AS) (B : XD → AS → Prop) (n : Nat) σ F0 H0 F H fps k p ps xs vs K, a.n = n → AOk a σ F H fps → Le F0 H0 fps.flatten F H fps.flatten → fps[k]? = some (p :: ps) → ValsOk F H fps xs vs → NewsOk H0 xs vs → g a k xs K →
  ∀ Q : VK, KOk K n σ F0 H0 fps Q → r (.ref p) vs H Q
def wMeth (g : GM) (wo : WE) (wa : WA) : WE := fun a K B => wo a (fun r a1 => ∃ k, r = .o k ∧ (∃ c, a1.ow[k]? = some c ∧ isLs c = true) ∧ wa a1 (fun xs a2 => g a2 k xs K) B) B
where isLs : Own → Bool
  | .ls _ => true
  | _ => false
theorem snd_meth {E : XK} {K0 : PySem.W.Frag} {r : V → List V → Hp → VK → Prop} {g : GM} {to : TE} {t : TA} {wo : WE} {wa : WA} (h : RMS r g) (ho : SndE E to wo) (ha : SndA E t wa) : SndE E (tBM K0 "list" r to t) (wMeth g wo wa) := by
  intro a K B k σ F H fps x Q q b
  refine ho a _ B k σ F H fps x _ (fun r1 a1 v1 F1 H1 ⟨j, e1, ⟨c, ec, hl⟩, k1⟩ n1 x1 l1 o1 w1 => ?_) b
  subst e1
  obtain ⟨p, ps, rfl, hp⟩ := o1
  have ty : tyV K0 "list" (.ref p) H1 := by
    cases c with
    | ls xs =>
      obtain ⟨_, vs, hv, _⟩ := cell_one x1 hp ec
      exact .inl ⟨rfl, vs, SqL.of hv⟩
    | _ => cases hl
  refine ⟨ty, ?_⟩
  refine ha a1 _ B k1 σ F1 H1 fps x1 _ (fun xs a2 vs F2 H2 k2 n2 x2 l2 o2 w2 => ?_) (by rw [n1]; exact b.le l1)
  exact h E a2 B a.n σ F H F2 H2 fps j p ps xs vs K (n2.trans n1) x2 (l1.trans l2) hp o2 (w2.backs l1) k2 Q q
section
variable {X : Cx} {E : XK} {eo e : Expr} {es : List Expr} {to : TE} {t : TA} {wo : WE} {wa : WA} {apos cpos : Pos}
def gAppend : GM := fun a k xs K => ∃ x d ys, xs = [x] ∧ frz x = some d ∧ a.ow[k]? = some (.ls ys) ∧ ys.length ≤ 100000 ∧ K (.d .none) { a with ow := a.ow.set k (.ls (ys ++ [d])) }
theorem rms_append : RMS rAppend gAppend := by
  intro E a B n σ F0 H0 F H fps k p ps xs vs K hn x l hp ov wv g Q q
  obtain ⟨y, d, ys, rfl, e1, e2, hz, kk⟩ := g
  obtain ⟨v, rfl, o⟩ := vals_one ov
  have nw : NewOk H0 y v := by cases wv with | cons h _ _ => exact h
  obtain ⟨F2, f, r⟩ := freeze_one (H0 := H0) x o.w nw e1
  obtain ⟨rfl, us, hu, ru⟩ := cell_one f.ok hp e2
  refine ⟨p, us, v, rfl, rfl, hu, by rw [ru.length, sizeLine_eq]; omega, ?_⟩
  obtain ⟨x3, l3⟩ := f.ok.setCell (o := .lst (us ++ [v])) (c := .ls (ys ++ [d])) hp e2 ⟨p, _, rfl, upd_same, ru.app (.one r)⟩
  exact q _ _ .non F2 _ kk hn x3 ((f.le l).trans l3) .non trivial
variable {nm : Str} {id : String} {r : V → List V → Hp → VK → Prop} {g : GM}
theorem de_bmL (slot : Slot "list" nm id) (hty : typeOf (.builtin id) = pure (.type "method_descriptor")) (om : MtR X id r ∧ RMS r g) (ho : DE X E eo to wo) (ha : DA X E (e :: es) t wa)
    (hbase : attributeBase eo nm X.env (eval eo X.env) = eval eo X.env := by rfl)
    (hfew : ((backTo cpos (starEach (e :: es) X.env)).all (fun x => !x.1) && (backToKw cpos (keywordEach [] X.env)).all (fun x => x.1.isSome)
      && decide ((e :: es).length + ([] : List Keyword).length + (if ([] : List Keyword).isEmpty then 0 else 1) < 30)) = true := by rfl)
    (hline : (apos.endLine == cpos.line) = true := by rfl) (hs : starEach (e :: es) X.env = (false, eval e X.env) :: starEach es X.env := by rfl) (hpl : (backTo cpos (starEach es X.env)).any (·.1) = false := by rfl) :
    DE X E (.Call (.Attribute eo nm apos) (e :: es) [] cpos) (tBM X.K "list" r to t) (wMeth g wo wa) := ⟨pe_bm PySem.F.plainAttrs_list slot hty om.1 ho.pe ha.pa hbase hfew hline hs hpl, snd_meth om.2 ho.so ha.so⟩
theorem snd_meth0 {K0 : PySem.W.Frag} (h : RMS r g) (ho : SndE E to wo) : SndE E (tBM0 K0 "list" r to) (wMeth g wo wNil) := by
  intro a K B k σ F H fps x Q q b
  refine ho a _ B k σ F H fps x _ (fun r1 a1 v1 F1 H1 ⟨j, e1, ⟨c, ec, hl⟩, k1⟩ n1 x1 l1 o1 w1 => ?_) b
  subst e1
  obtain ⟨p, ps, rfl, hp⟩ := o1
  have ty : tyV K0 "list" (.ref p) H1 := by
    cases c with
    | ls xs =>
      obtain ⟨_, vs, hv, _⟩ := cell_one x1 hp ec
      exact .inl ⟨rfl, vs, SqL.of hv⟩
    | _ => cases hl
  exact ⟨ty, h E a1 B a.n σ F H F1 H1 fps j p ps [] [] K n1 x1 l1 hp .nil .nil k1 Q q⟩
theorem de_bmL0 (slot : Slot "list" nm id) (hty : typeOf (.builtin id) = pure (.type "method_descriptor")) (om : MtR X id r ∧ RMS r g) (ho : DE X E eo to wo)
    (hbase : attributeBase eo nm X.env (eval eo X.env) = eval eo X.env := by rfl) (hline : (apos.endLine == cpos.line) = true := by rfl) :
    DE X E (.Call (.Attribute eo nm apos) [] [] cpos) (tBM0 X.K "list" r to) (wMeth g wo wNil) := ⟨pe_bm0 PySem.F.plainAttrs_list slot hty om.1 ho.pe hbase hline, snd_meth0 om.2 ho.so⟩
theorem m_append : MtR X "list.append" rAppend ∧ RMS rAppend gAppend := ⟨mt_append, rms_append⟩
def gPopAt : GM := fun a k xs K => ∃ x i ys d j, xs = [x] ∧ vw a x = some (.int i) ∧ a.ow[k]? = some (.ls ys) ∧ -(2 ^ 63) ≤ i ∧ i < 2 ^ 63 ∧ seqIndex? i ys.length = some j ∧ ys[j]? = some d ∧ K (.d d) { a with ow := a.ow.set k (.ls (ys.eraseIdx j)) }
theorem rms_popAt : RMS rPopAt gPopAt := by
  intro E a B n σ F0 H0 F H fps k p ps xs vs K hn x l hp ov wv g Q q
  obtain ⟨y, i, ys, d, j, rfl, e1, e2, h1, h2, h3, h4, kk⟩ := g
  obtain ⟨v, rfl, o⟩ := vals_one ov
  obtain ⟨rfl, us, hu, ru⟩ := cell_one x hp e2
  obtain ⟨u, hu2, ru2⟩ := ru.get' h4
  refine ⟨p, us, i, j, u, rfl, by rw [vw_int x o e1], hu, h1, h2, by rw [ru.length]; exact h3, hu2, ?_⟩
  obtain ⟨x3, l3⟩ := x.setCell (o := .lst (us.eraseIdx j)) (c := .ls (ys.eraseIdx j)) hp e2 ⟨p, _, rfl, upd_same, ru.erase j⟩
  exact q _ _ u F _ kk hn x3 (l.trans l3) ru2 trivial
theorem m_popAt : MtR X "list.pop" rPopAt ∧ RMS rPopAt gPopAt := ⟨mt_popAt, rms_popAt⟩
def gPop : GM := fun a k xs K => ∃ ys d, xs = [] ∧ a.ow[k]? = some (.ls ys) ∧ ys[ys.length - 1]? = some d ∧ K (.d d) { a with ow := a.ow.set k (.ls ys.dropLast) }
theorem repAll_dropLast {F : Hp} {vs : List V} {ds : List D} (r : RepAll F vs ds) : RepAll F vs.dropLast ds.dropLast := by
  rw [List.dropLast_eq_take, List.dropLast_eq_take, r.length]
  exact r.take _
theorem rms_pop : RMS rPop gPop := by
  intro E a B n σ F0 H0 F H fps k p ps xs vs K hn x l hp ov wv g Q q
  obtain ⟨ys, d, rfl, e2, h4, kk⟩ := g
  cases ov
  obtain ⟨rfl, us, hu, ru⟩ := cell_one x hp e2
  obtain ⟨u, hu2, ru2⟩ := ru.get' h4
  refine ⟨p, us, u, rfl, rfl, hu, by rw [ru.length]; exact hu2, ?_⟩
  obtain ⟨x3, l3⟩ := x.setCell (o := .lst us.dropLast) (c := .ls ys.dropLast) hp e2 ⟨p, _, rfl, upd_same, repAll_dropLast ru⟩
  exact q _ _ u F _ kk hn x3 (l.trans l3) ru2 trivial
theorem m_pop : MtR X "list.pop" rPop ∧ RMS rPop gPop := ⟨mt_pop, rms_pop⟩
def gClear : GM := fun a k xs K => ∃ ys, xs = [] ∧ a.ow[k]? = some (.ls ys) ∧ K (.d .none) { a with ow := a.ow.set k (.ls []) }
theorem rms_clear : RMS rClear gClear := by
  intro E a B n σ F0 H0 F H fps k p ps xs vs K hn x l hp ov wv g Q q
  obtain ⟨ys, rfl, e2, kk⟩ := g
  cases ov
  obtain ⟨rfl, us, hu, ru⟩ := cell_one x hp e2
  refine ⟨p, us, rfl, rfl, hu, ?_⟩
  obtain ⟨x3, l3⟩ := x.setCell (o := .lst []) (c := .ls []) hp e2 ⟨p, _, rfl, upd_same, .nil⟩
  exact q _ _ .non F _ kk hn x3 (l.trans l3) .non trivial
theorem m_clear : MtR X "list.clear" rClear ∧ RMS rClear gClear := ⟨mt_clear, rms_clear⟩
end
def wFrz (i : Nat) (w : WS) : WS := fun a D => ∃ k xs, a.sl[i]? = some (.o k) ∧ a.ow[k]? = some (.ls xs) ∧ a.n ≤ k ∧ (∀ j s, a.sl[j]? = some s → j ≠ i → noCell k s = true) ∧ w { a with sl := a.sl.set i (.d (.list xs)), ow := a.ow.set k .gone } D
where noCell (k : Nat) : Sl → Bool
  | .o j => j != k
  | _ => true
theorem snd_frz {E : XK} {i : Nat} {ts : TS} {w : WS} (h : SndS E ts w) : SndS E ts (wFrz i w) := by
  intro a A k σ F H fps x D en
  obtain ⟨j, xs, e1, e2, hn, hno, kk⟩ := k
  have z := x.sl i _ e1
  obtain ⟨p, ps, s1, s2⟩ := z
  obtain ⟨rfl, us, hu, ru⟩ := cell_one x s2 e2
  have hm : p ∈ fps.flatten := flat_mem s2 (by simp)
  have hf := x.nf p hm
  have hl : j < fps.length := (List.getElem?_eq_some_iff.mp s2).1
  have sub : ∀ q, q ∈ (fps.set j []).flatten → q ∈ fps.flatten ∧ q ≠ p := fun q hq => by
    obtain ⟨l, hl2, hm2⟩ := List.mem_flatten.mp hq
    obtain ⟨m, hm3⟩ := List.mem_iff_getElem?.mp hl2
    by_cases hmj : j = m
    · subst hmj
      rw [List.getElem?_set_self hl] at hm3
      cases hm3
      simp at hm2
    · rw [List.getElem?_set_ne hmj] at hm3
      exact ⟨flat_mem hm3 hm2, fun e => hmj (cells_apart x s2 hm3 (by simp [e]) hm2)⟩
  have nd : (fps.set j []).flatten.Nodup := by
    have go : ∀ (l : List (List Addr)) (j : Nat), l.flatten.Nodup → (l.set j []).flatten.Nodup := by
      intro l
      induction l with
      | nil => intro j h; simpa using h
      | cons z zs ih =>
        intro j h
        rw [List.flatten_cons] at h
        obtain ⟨h1, h2, h3⟩ := List.nodup_append.mp h
        cases j with
        | zero => simpa using h2
        | succ j =>
          rw [List.set_cons_succ, List.flatten_cons]
          refine List.nodup_append.mpr ⟨h1, ih j h2, fun q hq r hr => h3 q hq r ?_⟩
          obtain ⟨l, hl, hm⟩ := List.mem_flatten.mp hr
          rcases List.mem_or_eq_of_mem_set hl with e | e
          · exact List.mem_flatten.mpr ⟨l, e, hm⟩
          · subst e; simp at hm
    exact go fps j x.nd
  have x2 : AOk { a with sl := a.sl.set i (.d (.list xs)), ow := a.ow.set j .gone } σ (upd F p (.lst us)) H (fps.set j []) := by
    refine ⟨x.sub.self hu, nd, by rw [List.length_set, List.length_set]; exact x.len, fun m fp c f1 f2 => ?_, fun q hq => ?_, by rw [List.length_set]; exact x.ln, fun m s f1 => ?_, by rw [List.length_set]; exact x.nn, fun b us e => Sub.put hf _ _ (x.tp b us e)⟩
    · have f2' : (a.ow.set j .gone)[m]? = some c := f2
      by_cases hj : j = m
      · subst hj
        rw [List.getElem?_set_self hl] at f1
        rw [List.getElem?_set_self (by rw [← x.len]; exact hl)] at f2'
        cases f1; cases f2'
        rfl
      · rw [List.getElem?_set_ne hj] at f1 f2'
        exact (x.own m fp c f1 f2').mono (Sub.put hf) fun _ _ _ e => e
    · obtain ⟨q1, q2⟩ := sub q hq
      rw [upd_ne q2]
      exact x.nf q q1
    · have f1' : (a.sl.set i (.d (.list xs)))[m]? = some s := f1
      by_cases hi : i = m
      · subst hi
        rw [List.getElem?_set_self (List.getElem?_eq_some_iff.mp e1).1] at f1'
        cases f1'
        exact ⟨.ref p, s1, .lst upd_same (ru.mono (Sub.put hf))⟩
      · rw [List.getElem?_set_ne hi] at f1'
        have y := x.sl m s f1'
        have ny := hno m s f1' (Ne.symm hi)
        cases s with
        | un => trivial
        | d w => exact SlOk.mono (s := .d w) (Sub.put hf) y
        | v w => exact y
        | sc K0 ns => exact SlOk.mono (s := .sc K0 ns) (Sub.put hf) y
        | er w => exact SlOk.mono (s := .er w) (Sub.put hf) y
        | px w => exact SlOk.mono (s := .px w) (Sub.put hf) y
        | o k2 =>
          obtain ⟨q, qs, y1, y2⟩ := y
          have : k2 ≠ j := by
            unfold wFrz.noCell at ny
            simpa using ny
          exact ⟨q, qs, y1, by rw [List.getElem?_set_ne (Ne.symm this)]; exact y2⟩
  refine h _ A kk σ _ H (fps.set j []) x2 D ?_
  refine en.le ⟨Sub.put hf, fun _ _ _ e => e, fun b z => ?_, fun b z => .inl (sub b z).1, fun _ z => z⟩ ?_
  · by_cases hb : b = p
    · subst hb; exact .inr (.inr hm)
    · rw [upd_ne hb] at z; exact .inl z
  · apply List.ext_getElem?
    intro m
    rw [List.getElem?_take, List.getElem?_take]
    split
    · rename_i hlt
      have hlt : m < a.n := hlt
      rw [List.getElem?_set_ne (by omega)]
    · rfl
theorem dss_frz {X : Cx} {E : XK} {sts : List Stmt} {ts : TS} {w : WS} (i : Nat) (h : DSs X E sts ts w) : DSs X E sts ts (wFrz i w) := ⟨h.ps, snd_frz h.so⟩
end DL
namespace DL
open PySem PySem.Spec PyProof.Rows L2
def parStore : List (Nat × Bool) → List Ev → AS → Option AS
  | [], [], a => some a
  | (i, false) :: ps, r :: rs, a => match keep r with
    | some s => parStore ps rs { a with sl := a.sl.set i s }
    | none => none
  | (i, true) :: ps, r :: rs, a => match cellOf r with
    | some c => parStore ps rs { a with sl := a.sl.set i (.o a.ow.length), ow := a.ow ++ [c] }
    | none => none
  | _, _, _ => none
def setAll : List (Nat × Bool) → List V → Sgm → Sgm
  | (i, _) :: ps, v :: vs, σ => setAll ps vs (σ.set i (some v))
  | _, _, σ => σ
theorem put_one {a : AS} {σ : Sgm} {F0 H0 F H : Hp} {P0 : List Addr} {fps : List (List Addr)} {i : Nat} {r : Ev} {v : V} {s : Sl} (x : AOk a σ F H fps) (l : Le F0 H0 P0 F H fps.flatten) (o : ValOk F H fps r v) (w : NewOk H0 r v) (e : keep r = some s) :
    ∃ F', AOk { a with sl := a.sl.set i s } (σ.set i (some v)) F' H fps ∧ Le F0 H0 P0 F' H fps.flatten ∧ ∀ r' v', ValOk F H fps r' v' → (isN r' = true → v' ≠ v ∨ isN r = false) → ValOk F' H fps r' v' := by
  have fz : ∀ (p : Addr) (u : HO) (s : Sl), v = .ref p → isN r = true → H p = some u → F p = none → p ∉ fps.flatten → H0 p = none → SlOk (upd F p u) fps s (some v) →
      ∃ F', AOk { a with sl := a.sl.set i s } (σ.set i (some v)) F' H fps ∧ Le F0 H0 P0 F' H fps.flatten ∧ ∀ r' v', ValOk F H fps r' v' → (isN r' = true → v' ≠ v ∨ isN r = false) → ValOk F' H fps r' v' := by
    intro p u s hv hN hp hf hn h0 so
    refine ⟨upd F p u, (x.freeze hp hf hn).setSlot so, ⟨l.fr.trans (Sub.put hf), l.hp, fun b z => ?_, l.pw, l.ex⟩, fun r' v' o' ap => ?_⟩
    · by_cases hb : b = p
      · subst hb; exact .inr (.inl h0)
      · rw [upd_ne hb] at z; exact l.nw b z
    · cases r' with
      | d y => exact Rep.mono (Sub.put hf) o'
      | o k => exact o'
      | v y => exact o'
      | er y => exact ErOk.mono (Sub.put hf) o'
      | nl xs =>
        obtain ⟨q, us, e1, e2, e3, e4, e5⟩ := o'
        refine ⟨q, us, e1, e2, ?_, e4, e5.mono (Sub.put hf)⟩
        rw [upd_ne (fun z => ?_)]
        · exact e3
        · rcases ap rfl with y | y
          · exact y (by rw [e1, hv, z])
          · rw [hN] at y; cases y
      | nd xs =>
        obtain ⟨q, e1, e2, e3, e4⟩ := o'
        refine ⟨q, e1, e2.mono (Sub.put hf) fun _ z => z, ?_, e4⟩
        rw [upd_ne (fun z => ?_)]
        · exact e3
        · rcases ap rfl with y | y
          · exact y (by rw [e1, hv, z])
          · rw [hN] at y; cases y
  cases r with
  | d y => cases e; exact ⟨F, x.setSlot ⟨v, rfl, o⟩, l, fun _ _ z _ => z⟩
  | o k => cases e; obtain ⟨p, ps, rfl, z⟩ := o; exact ⟨F, x.setSlot ⟨p, ps, rfl, z⟩, l, fun _ _ z _ => z⟩
  | v y => cases e; cases o; exact ⟨F, x.setSlot rfl, l, fun _ _ z _ => z⟩
  | er y => cases e; exact ⟨F, x.setSlot ⟨v, rfl, o⟩, l, fun _ _ z _ => z⟩
  | nl xs =>
    cases e
    obtain ⟨p, us, e1, e2, e3, e4, e5⟩ := o
    exact fz p _ _ e1 rfl e2 e3 e4 (w p e1) ⟨v, rfl, by rw [e1]; exact .lst upd_same (e5.mono (Sub.put e3))⟩
  | nd xs => cases e
theorem flat_snoc (fps : List (List Addr)) (p : Addr) : (fps ++ [[p]]).flatten = fps.flatten ++ [p] := by
  rw [List.flatten_append]; simp
theorem own_one {a : AS} {σ : Sgm} {F0 H0 F H : Hp} {P0 : List Addr} {fps : List (List Addr)} {i : Nat} {r : Ev} {v : V} {c : Own} (x : AOk a σ F H fps) (l : Le F0 H0 P0 F H fps.flatten) (o : ValOk F H fps r v) (w : NewOk H0 r v) (e : cellOf r = some c) :
    ∃ p, AOk { a with sl := a.sl.set i (.o a.ow.length), ow := a.ow ++ [c] } (σ.set i (some v)) F H (fps ++ [[p]]) ∧ Le F0 H0 P0 F H (fps ++ [[p]]).flatten ∧ ∀ r' v', ValOk F H fps r' v' → (isN r' = true → v' ≠ v) → ValOk F H (fps ++ [[p]]) r' v' := by
  obtain ⟨p, rfl, oc, f, n⟩ := cell_ok o e
  refine ⟨p, (x.addCell oc f n).setSlot (i := i) (s := .o a.ow.length) (v := .ref p) ⟨p, [], rfl, by rw [← x.len]; simp⟩, by rw [flat_snoc]; exact le_addP l (new_at w e), fun r' v' o' ap => ?_⟩
  cases r' with
  | d y => exact o'
  | v y => exact o'
  | er y => exact o'
  | o k => obtain ⟨q, qs, e1, e2⟩ := o'; exact ⟨q, qs, e1, by rw [List.getElem?_append_left (List.getElem?_eq_some_iff.mp e2).1]; exact e2⟩
  | nl xs =>
    obtain ⟨q, us, e1, e2, e3, e4, e5⟩ := o'
    refine ⟨q, us, e1, e2, e3, ?_, e5⟩
    rw [flat_snoc, List.mem_append, not_or]
    exact ⟨e4, by simp; exact fun z => ap rfl (by rw [e1, z])⟩
  | nd xs =>
    obtain ⟨q, e1, e2, e3, e4⟩ := o'
    refine ⟨q, e1, e2, e3, ?_⟩
    rw [flat_snoc, List.mem_append, not_or]
    exact ⟨e4, by simp; exact fun z => ap rfl (by rw [e1, z])⟩
theorem isN_keep {r : Ev} {c : Own} (e : cellOf r = some c) : isN r = true := by
  cases r <;> first | rfl | cases e
theorem par_ok {F0 H0 H : Hp} {P0 : List Addr} : ∀ {ps : List (Nat × Bool)} {rs : List Ev} {vs : List V} {a a' : AS} {σ : Sgm} {F : Hp} {fps : List (List Addr)}, AOk a σ F H fps → Le F0 H0 P0 F H fps.flatten → ValsOk F H fps rs vs → NewsOk H0 rs vs → parStore ps rs a = some a' →
    ∃ F' fps', AOk a' (setAll ps vs σ) F' H fps' ∧ Le F0 H0 P0 F' H fps'.flatten ∧ a'.n = a.n ∧ ∃ more, fps' = fps ++ more
  | [], [], [], a, a', σ, F, fps, x, l, .nil, .nil, e => by cases e; exact ⟨F, fps, x, l, rfl, [], by simp⟩
  | (i, false) :: ps, r :: rs, v :: vs, a, a', σ, F, fps, x, l, .cons o os, .cons w ws ap, e => by
    unfold parStore at e
    cases ek : keep r with
    | none => rw [ek] at e; cases e
    | some s =>
      rw [ek] at e
      obtain ⟨F1, x1, l1, k1⟩ := put_one (i := i) x l o w ek
      have os1 : ValsOk F1 H fps rs vs := by
        have go : ∀ {rs : List Ev} {vs : List V}, ValsOk F H fps rs vs → (isN r = true → ∀ x ∈ rs.zip vs, isN x.1 = true → x.2 ≠ v) → ValsOk F1 H fps rs vs := by
          intro rs vs h
          induction h with
          | nil => intro _; exact .nil
          | cons h1 _ ih =>
            intro ap
            refine .cons (k1 _ _ h1 fun hn => ?_) (ih fun hr z hz => ap hr z (List.mem_cons_of_mem _ hz))
            cases hr : isN r with
            | false => exact .inr rfl
            | true => exact .inl (ap hr _ (List.mem_cons_self ..) hn)
        exact go os ap
      have res := par_ok x1 l1 os1 ws e
      exact res
  | (i, true) :: ps, r :: rs, v :: vs, a, a', σ, F, fps, x, l, .cons o os, .cons w ws ap, e => by
    unfold parStore at e
    cases ek : cellOf r with
    | none => rw [ek] at e; cases e
    | some c =>
      rw [ek] at e
      obtain ⟨p, x1, l1, k1⟩ := own_one (i := i) x l o w ek
      have os1 : ValsOk F H (fps ++ [[p]]) rs vs := by
        have go : ∀ {rs : List Ev} {vs : List V}, ValsOk F H fps rs vs → (∀ x ∈ rs.zip vs, isN x.1 = true → x.2 ≠ v) → ValsOk F H (fps ++ [[p]]) rs vs := by
          intro rs vs h
          induction h with
          | nil => intro _; exact .nil
          | cons h1 _ ih =>
            intro ap
            exact .cons (k1 _ _ h1 fun hn => ap _ (List.mem_cons_self ..) hn) (ih fun z hz => ap z (List.mem_cons_of_mem _ hz))
        exact go os (ap (isN_keep ek))
      obtain ⟨F', fps', y1, y2, y3, more, y4⟩ := par_ok x1 l1 os1 ws e
      exact ⟨F', fps', y1, y2, y3, [p] :: more, by rw [y4, List.append_assoc]; rfl⟩
  | [], _ :: _, _, _, _, _, _, _, _, _, _, _, e => by simp [parStore] at e
  | (_, false) :: _, [], _, _, _, _, _, _, _, _, _, _, e => by simp [parStore] at e
  | (_, true) :: _, [], _, _, _, _, _, _, _, _, _, _, e => by simp [parStore] at e
def wPar (ps : List (Nat × Bool)) (wa : WA) : WS := fun a D => wa a (fun rs a1 => ∃ a2, parStore ps rs a1 = some a2 ∧ D.nx a2) D.xb
theorem snd_par {E : XK} {ps : List (Nat × Bool)} {ta : TA} {wa : WA} {ts : TS} (h : SndA E ta wa) (ht : ∀ D σ H, ta σ H (fun vs H1 => vs.length = ps.length ∧ D.nx (setAll ps vs σ) H1) → ts D σ H) : SndS E ts (wPar ps wa) := by
  intro a A k σ F H fps x D en
  refine ht D σ H (h a _ _ k σ F H fps x _ (fun rs a1 vs F1 H1 ⟨a2, e1, k1⟩ n1 x1 l1 o1 w1 => ?_) (ends_b en))
  obtain ⟨F2, fps2, x2, l2, n2, more, e2⟩ := par_ok x1 l1 o1 w1 e1
  refine ⟨?_, en.nx a2 _ F2 H1 fps2 k1 x2 l2 ?_ (n2.trans n1)⟩
  · have go : ∀ {ps : List (Nat × Bool)} {rs : List Ev} {a a' : AS}, parStore ps rs a = some a' → rs.length = ps.length := by
      intro ps
      induction ps with
      | nil => intro rs a a' e; cases rs with | nil => rfl | cons _ _ => simp [parStore] at e
      | cons q qs ih =>
        intro rs a a' e
        obtain ⟨i, b⟩ := q
        cases rs with
        | nil => cases b <;> simp [parStore] at e
        | cons r rs =>
          cases b with
          | false =>
            unfold parStore at e
            split at e
            · rw [List.length_cons, List.length_cons, ih e]
            · cases e
          | true =>
            unfold parStore at e
            split at e
            · rw [List.length_cons, List.length_cons, ih e]
            · cases e
    rw [← Paired.len o1]
    exact go e1
  · rw [e2]
    exact List.take_append_of_le_length (by rw [x.len]; exact x.nn)
section
variable {X : Cx} {E : XK} {ta : TA} {wa : WA} {px py pz pt pos : Pos}
theorem ds_par {i j : Nat} {b1 b2 : Bool} {x y : Str} {ea eb : Expr} {kt k2 pt2} (hc : X.calm = true) (hN : X.N.Nodup) (hi : X.N[i]? = some x) (hj : X.N[j]? = some y) (hij : i ≠ j) (hx : X.env.scope.names.lookup x = some .local) (hy : X.env.scope.names.lookup y = some .local) (ha : DA X E [ea, eb] ta wa)
    (hw : swappedStores [.Tuple [.Name x px, .Name y py] kt pt] (.Tuple [ea, eb] k2 pt2) X.env = pure (some [x, y])) (hs : swapsWithSole [.Tuple [.Name x px, .Name y py] kt pt] (.Tuple [ea, eb] k2 pt2) pos.line X.env = pure false := by rfl) :
    DS X E (.Assign [.Tuple [.Name x px, .Name y py] kt pt] (.Tuple [ea, eb] k2 pt2) pos) (tPar i j ta) (wPar [(i, b1), (j, b2)] wa) := ⟨ps_par hc hN hi hj hij hx hy ha.pa hw hs, snd_par ha.so fun D σ H h => by
  have e : (fun (vs : List V) (H1 : Hp) => vs.length = [(i, b1), (j, b2)].length ∧ D.nx (setAll [(i, b1), (j, b2)] vs σ) H1) = (fun vs H1 => ∃ v w, vs = [v, w] ∧ D.nx ((σ.set i (some v)).set j (some w)) H1) := by
    funext vs H1
    apply propext
    constructor
    · rintro ⟨h1, h2⟩
      match vs, h1 with
      | [v, w], _ => exact ⟨v, w, rfl, h2⟩
    · rintro ⟨v, w, rfl, h2⟩
      exact ⟨rfl, h2⟩
  rw [e] at h
  exact h⟩
theorem ds_par3 {i j l : Nat} {b1 b2 b3 : Bool} {x y z : Str} {ea eb ec : Expr} {kt k2 pt2} (hc : X.calm = true) (hN : X.N.Nodup) (hi : X.N[i]? = some x) (hj : X.N[j]? = some y) (hl : X.N[l]? = some z) (hij : i ≠ j) (hil : i ≠ l) (hjl : j ≠ l)
    (hx : X.env.scope.names.lookup x = some .local) (hy : X.env.scope.names.lookup y = some .local) (hz : X.env.scope.names.lookup z = some .local) (ha : DA X E [ea, eb, ec] ta wa)
    (hw : swappedStores [.Tuple [.Name x px, .Name y py, .Name z pz] kt pt] (.Tuple [ea, eb, ec] k2 pt2) X.env = pure (some [x, y, z])) (hs : swapsWithSole [.Tuple [.Name x px, .Name y py, .Name z pz] kt pt] (.Tuple [ea, eb, ec] k2 pt2) pos.line X.env = pure false := by rfl) :
    DS X E (.Assign [.Tuple [.Name x px, .Name y py, .Name z pz] kt pt] (.Tuple [ea, eb, ec] k2 pt2) pos) (tPar3 i j l ta) (wPar [(i, b1), (j, b2), (l, b3)] wa) := ⟨ps_par3 hc hN hi hj hl hij hil hjl hx hy hz ha.pa hw hs, snd_par ha.so fun D σ H h => by
  have e : (fun (vs : List V) (H1 : Hp) => vs.length = [(i, b1), (j, b2), (l, b3)].length ∧ D.nx (setAll [(i, b1), (j, b2), (l, b3)] vs σ) H1) = (fun vs H1 => ∃ u v w, vs = [u, v, w] ∧ D.nx (((σ.set i (some u)).set j (some v)).set l (some w)) H1) := by
    funext vs H1
    apply propext
    constructor
    · rintro ⟨h1, h2⟩
      match vs, h1 with
      | [u, v, w], _ => exact ⟨u, v, w, rfl, h2⟩
    · rintro ⟨u, v, w, rfl, h2⟩
      exact ⟨rfl, h2⟩
  rw [e] at h
  exact h⟩
end
end DL
namespace DL
open PySem PySem.Spec PyProof.Rows L2
structure Cal (P : Program) (w : World) (K : PySem.W.Frag) (mg : Str → Option Value) (base : Heap) (gd : Bool) (k : Nat) (x : Str) (ps : List Str) (m : Nat) (c : Ct) : Prop where
  ex : ∃ f fd, FnG P w K mg base gd k f fd ps (spOf m c) ∧ mg x = some (.ref f) ∧ PySem.W.keepIn K (.ref f) = true ∧ Binds K fd ps []
structure KCal (P : Program) (w : World) (K : PySem.W.Frag) (mg : Str → Option Value) (base : Heap) (gd : Bool) (k : Nat) (x : Str) (ps ks : List Str) (perm : List Nat) (m : Nat) (c : Ct) : Prop where
  ex : ∃ f fd, FnG P w K mg base gd k f fd ps (spOf m c) ∧ mg x = some (.ref f) ∧ PySem.W.keepIn K (.ref f) = true ∧ KBind fd ps ks perm
section
variable {X : Cx} {gd : Bool} {k j : Nat} {ps ks : List Str} {perm : List Nat} {E : XK} {x : Str} {p pos : Pos} {e : Expr} {es : List Expr} {kws : List Keyword} {ta tk : TA} {wa wk : WA} {m : Nat} {c : Ct}
theorem de_c (C : Cal X.prog X.w X.K X.mg X.base gd k x ps m c) (hr : Room j X.A) (hj : k ≤ j) (hgd : gd = true → X.A.guards = some []) (hx : PassG X E) (hg : Gl X x)
    (ha : DA X E (e :: es) ta wa) (hdb : (x == ("__debug__" : Str)) = false := by decide) (he : starEach (e :: es) X.env = (false, eval e X.env) :: starEach es X.env := by rfl) (hpl : (backTo pos (starEach es X.env)).any (·.1) = false := by rfl) :
    DE X E (.Call (.Name x p) (e :: es) [] pos) (tCallG (spOf m c) E ta) (wCall c m wa) := by
  obtain ⟨f, fd, F, hm, hk, hb⟩ := C.ex
  exact de_call F (hr.mono hj) hgd hx hg hm hk hb ha hdb he hpl
theorem de_k (C : KCal X.prog X.w X.K X.mg X.base gd k x ps ks perm m c) (hr : Room j X.A) (hj : k ≤ j) (hgd : gd = true → X.A.guards = some []) (hx : PassG X E) (hg : Gl X x)
    (hkw : DK X E kws tk wk) (hpk : perm.length = ks.length := by rfl) (hall : (backToKw pos (keywordEach kws X.env)).all (·.1.isSome) = true := by rfl) (hks : (backToKw pos (keywordEach kws X.env)).filterMap (·.1) = ks := by rfl) (hdb : (x == ("__debug__" : Str)) = false := by decide)
    (hpl : ((backTo pos (starEach [] X.env)).any (·.1) || (backToKw pos (keywordEach kws X.env)).any (·.1.isNone)) = false := by rfl) :
    DE X E (.Call (.Name x p) [] kws pos) (tCallGK (spOf m c) perm ks.length E tk) (wCallK c m perm wk) := by
  obtain ⟨f, fd, F, hm, hk, hb⟩ := C.ex
  exact de_callK F (hr.mono hj) hgd hx hg hm hk hb hkw hpk hall hks hdb hpl
end
theorem hu200 {k : Nat} {A : Around} (hr : Room k A) : A.units + 200 < cLine := by have := hr.un; omega
structure Bl (mg : Str → Option Value) : Prop where
  b_len : mg "len" = none
  b_isinstance : mg "isinstance" = none
  b_list : mg "list" = none
  b_tuple : mg "tuple" = none
  b_sorted : mg "sorted" = none
  b_range : mg "range" = none
  b_int : mg "int" = none
  b_bool : mg "bool" = none
  b_str : mg "str" = none
  b_dict : mg "dict" = none
  b_set : mg "set" = none
  b_abs : mg "abs" = none
  b_min : mg "min" = none
  b_max : mg "max" = none
  b_zip : mg "zip" = none
  b_enumerate : mg "enumerate" = none
  b_repr : mg "repr" = none
  b_sum : mg "sum" = none
  b_any : mg "any" = none
  b_all : mg "all" = none
theorem fngx {P : Program} {w : World} {K : PySem.W.Frag} {mg : Str → Option Value} {base : Heap} {gd : Bool} {k : Nat} {f : Addr} {x qual : Str} {st : Stmt} {fd : FuncData} {N ps : List Str} {c : Ct} (F : Fun K x qual st f fd) (S : FnScope N ps (defScope st))
    (h : ∃ ws : WS, (∀ (cdv : Value) (A : Around) (outer : List Env) (s : Shared) (H : Hp) (E : XK), Room k (A.deeper (envOfC qual (defScope st) s.heap.objs.size f cdv)) → (A.deeper (envOfC qual (defScope st) s.heap.objs.size f cdv)).units + 200 < cLine → (gd = true → A.guards = some []) →
      ∃ ts, DSs (cxD P w K mg base N qual (defScope st) f cdv A outer s H E) E (defBody st) ts ws) ∧
      ∀ args ow KQ KB, args.length = ps.length → c args ow KQ KB → ws (a0 N args ow) (endsOf KQ KB)) : FnG P w K mg base gd (k + 1) f fd ps (spOf ps.length c) := by
  obtain ⟨ws, h1, h2⟩ := h
  exact fng F S (fun cdv A outer s H E hr hgd => h1 cdv A outer s H E hr (hu200 hr) hgd) h2
def ctF (f : List D → Option D) : Ct := fun args ow KQ _ => ∃ ds d, args = ds.map Sl.d ∧ f ds = some d ∧ KQ (.d d) ow
end DL
namespace DL
open PySem PySem.Spec PyProof.Rows L2
def wWhile (wt : WT) (wb : WS) : WS := fun a D => ∃ I : Nat → AS → Prop, (∃ m, I m a) ∧ ∀ m a1, I m a1 →
  wt a1 (fun c a2 => (c = true → wb a2 { D with nx := fun a3 => ∃ m', m' < m ∧ I m' a3, ct := fun a3 => ∃ m', m' < m ∧ I m' a3, bk := D.nx }) ∧ (c = false → D.nx a2)) D.xb
theorem snd_while {E : XK} {tt : TT} {wt : WT} {tb : TS} {wb : WS} (ht : SndT E tt wt) (hb : SndS E tb wb) : SndS E (tWhile tt tb) (wWhile wt wb) := by
  intro a A k σ F H fps x D en
  obtain ⟨I, ⟨m0, i0⟩, turn⟩ := k
  refine ⟨fun m σ2 H2 => ∃ a2 F2 fps2, I m a2 ∧ a2.n = a.n ∧ AOk a2 σ2 F2 H2 fps2 ∧ Le F H fps.flatten F2 H2 fps2.flatten ∧ fps2.take a.n = fps.take a.n,
    ⟨m0, a, F, fps, i0, rfl, x, Le.refl _ _ _, rfl⟩, ?_⟩
  rintro m σ2 H2 ⟨a2, F2, fps2, i2, n2, x2, l2, t2⟩
  have en2 := en.le l2 t2
  refine ht a2 _ _ (turn m a2 i2) σ2 F2 H2 fps2 x2 _ (fun c a3 F3 H3 k3 n3 x3 l3 => ?_) (by rw [n2]; exact ends_b en2)
  cases c with
  | true =>
    rw [if_pos rfl]
    have hn : a3.n = a.n := n3.trans n2
    refine ⟨fun σ' H' => ∃ m', m' < m ∧ ∃ a2 F2 fps2, I m' a2 ∧ a2.n = a.n ∧ AOk a2 σ' F2 H' fps2 ∧ Le F H fps.flatten F2 H' fps2.flatten ∧ fps2.take a.n = fps.take a.n, fun _ _ h => h, ?_⟩
    have en3 := en2.le l3 rfl
    have nx : ∀ a' σ' F' H' fps', (∃ m', m' < m ∧ I m' a') → AOk a' σ' F' H' fps' → Le F3 H3 fps2.flatten F' H' fps'.flatten → fps'.take a.n = fps2.take a.n → a'.n = a.n →
        ∃ m', m' < m ∧ ∃ a2 F2 fps2, I m' a2 ∧ a2.n = a.n ∧ AOk a2 σ' F2 H' fps2 ∧ Le F H fps.flatten F2 H' fps2.flatten ∧ fps2.take a.n = fps.take a.n :=
      fun a' σ' F' H' fps' ⟨m', h0, h1⟩ h2 h3 h4 h5 => ⟨m', h0, a', F', fps', h1, h5, h2, (l2.trans l3).trans h3, h4.trans t2⟩
    refine hb a3 _ (k3.1 rfl) σ2 F3 H3 fps2 x3 _ ?_
    rw [hn]
    exact ⟨nx, en3.rt, en3.nx, nx, en3.xb⟩
  | false =>
    rw [if_neg Bool.false_ne_true]
    exact en2.nx a3 σ2 F3 H3 fps2 (k3.2 rfl) x3 l3 rfl (n3.trans n2)
section
variable {X : Cx} {E : XK} {pos : Pos}
theorem ds_while {c : Expr} {body : List Stmt} {tt : TT} {wt : WT} {tb : TS} {wb : WS} (hp : PassesOwn (model X.prog X.w) X.A X.env X.xe) (hc : DT X E c tt wt) (hb : DSs X E body tb wb) : DS X E (.While c body [] pos) (tWhile tt tb) (wWhile wt wb) :=
  ⟨ps_while hp hc.pt hb.ps, snd_while hc.so hb.so⟩
end
theorem tuple_mul1 (l : Addr) (items : Array Value) (n : Nat) (dd : Option Addr) (sl : Array (Option Value)) (x : Int) (u : Tok) (c0 : (decide (x < -(2 ^ 63)) || decide (x ≥ 2 ^ 63)) = false) (c1 : (items.isEmpty || x == 1) = true) :
    Meets (Builtin.«tuple.__mul__» ⟨[.ref l, .int x u], []⟩) (fun _ R s => s.heap.get? l = some { cls := .type "tuple", dict := dd, data := .seq items n, slots := sl } ∧
      R (.ok (.ret (Value.ref l))) s) :=
  .of_wp fun prog w A R s h => by
    obtain ⟨hp, g, d, tk, os⟩ := s
    obtain ⟨hl, h⟩ := h
    have f1 := AutoSeq1.idx_int
    wp_walk using wpAny_loadPart' hl
    repeat (first
      | (refine wpAny_ite_false (decide_eq_false (by rw [c0]; exact Bool.false_ne_true)) ?_; wp_walk using wpAny_loadPart' hl)
      | (refine wpAny_ite_true (decide_eq_true (by rw [c1])) ?_; wp_walk using wpAny_loadPart' hl))
    exact ⟨_, rfl, h⟩
section
variable {X : Cx} {E : XK} {pos p2 : Pos} {ea eb : Expr} {ta tb : TE} {wa wb : WE}
def rRepA (K : PySem.W.Frag) : R2 := fun x y H Q => ∃ l k xs, x = .ref l ∧ y = .int k ∧ SqT K H l xs ∧ 1 ≤ k ∧ k ≤ 1000 ∧ xs.length ≤ 1000 ∧ ((xs = [] ∨ k = 1) → Q (.ref l) H) ∧
  (xs ≠ [] → 2 ≤ k → ∀ p, H p = none → Q (.ref p) (upd H p (.tup (List.replicate k.toNat xs).flatten)))
theorem op_repA : OpR X (binaryOp .Mult) (rRepA X.K) := by
  intro pins s σ H x y v u Q I rx ry h
  obtain ⟨l, k, xs, rfl, rfl, hT, h1, h2, hz, q1, q2⟩ := h
  by_cases hc : xs = [] ∨ k = 1
  · cases rx
    obtain ⟨t, rfl⟩ := ry
    obtain ⟨its, r, ⟨⟨cls, dd, data, sl⟩, ho, hc', n, hd⟩, hs⟩ := I.tuple hT
    simp only at hc' hd
    subst hc' hd
    have hle : its.length = xs.length := r.length.symm
    have c0 : (decide (k < -(2 ^ 63)) || decide (k ≥ 2 ^ 63)) = false := by
      rw [decide_eq_false (by omega), decide_eq_false (by omega)] <;> rfl
    have c1 : (its.toArray.isEmpty || k == 1) = true := by
      rcases hc with z | z
      · subst z
        have : its = [] := List.eq_nil_of_length_eq_zero hle
        subst this; rfl
      · subst z; simp
    refine wpAny_binaryOp_repeat_ref (T := "tuple") (U := "int") (by decide) ⟨_, ho, rfl⟩ (fun s' => typeIs_int s' k t) noFill_tuple_mul F.fills_int_mul F.slot_int_rmul repeat_tuple F.slot_int_index.lookup
      (call_meets F.slot_int_rmul (typeIs_int s k t) F.entry_int_rmul (F.args_int_rmul_2 _ _) (int_rmul_tuple k t l its.toArray n dd sl)
        ⟨ho, rfl, ⟨_, ho, rfl⟩, call_meets F.slot_tuple_mul ⟨_, ho, rfl⟩ F.entry_tuple_mul (F.args_tuple_mul_2 _ _) (tuple_mul1 l its.toArray n dd sl k t c0 c1) ⟨ho, ?_⟩⟩)
    exact ⟨.ref l, H, I, rfl, q1 hc⟩
  · have hne : xs ≠ [] := fun z => hc (.inl z)
    have hk : 2 ≤ k := by
      have : k ≠ 1 := fun z => hc (.inr z)
      omega
    exact op_repT pins s σ H _ _ v u Q I rx ry ⟨l, k, xs, rfl, rfl, hT, hne, hk, h2, hz, q2 hne hk⟩
theorem tuple_mul0 (l : Addr) (items : Array Value) (n : Nat) (dd : Option Addr) (sl : Array (Option Value)) (x : Int) (u : Tok) (c0 : (decide (x < -(2 ^ 63)) || decide (x ≥ 2 ^ 63)) = false) (c1 : (items.isEmpty || x == 1) = false) (c2 : (decide (x ≤ 0) || items.isEmpty) = true) :
    Meets (Builtin.«tuple.__mul__» ⟨[.ref l, .int x u], []⟩) (fun _ R s => s.heap.get? l = some { cls := .type "tuple", dict := dd, data := .seq items n, slots := sl } ∧
      R (.ok (.ret (Value.ref s.heap.objs.size))) { s with heap := s.heap.push { cls := Value.type "tuple", data := Data.seq #[] }, toks := s.toks }) :=
  .of_wp fun prog w A R s h => by
    obtain ⟨hp, g, d, tk, os⟩ := s
    obtain ⟨hl, h⟩ := h
    have f1 := AutoSeq1.idx_int
    wp_walk using wpAny_loadPart' hl
    repeat (first
      | (refine wpAny_ite_false (decide_eq_false (by rw [c0]; exact Bool.false_ne_true)) ?_; wp_walk using wpAny_loadPart' hl)
      | (refine wpAny_ite_false (decide_eq_false (by rw [c1]; exact Bool.false_ne_true)) ?_; wp_walk using wpAny_loadPart' hl)
      | (refine wpAny_ite_true (decide_eq_true (by rw [c2])) ?_; wp_walk using wpAny_loadPart' hl))
    exact ⟨_, rfl, h⟩
def rRep0 (K : PySem.W.Frag) : R2 := fun x y H Q => ∃ l k xs, x = .ref l ∧ y = .int k ∧ SqT K H l xs ∧ k = 0 ∧ (xs = [] → Q (.ref l) H) ∧ (xs ≠ [] → ∀ p, H p = none → Q (.ref p) (upd H p (.tup [])))
theorem op_rep0 : OpR X (binaryOp .Mult) (rRep0 X.K) := by
  intro pins s σ H x y v u Q I rx ry h
  obtain ⟨l, k, xs, rfl, rfl, hT, rfl, q1, q2⟩ := h
  cases rx
  obtain ⟨t, rfl⟩ := ry
  obtain ⟨its, r, ⟨⟨cls, dd, data, sl⟩, ho, hc', n, hd⟩, hs⟩ := I.tuple hT
  simp only at hc' hd
  subst hc' hd
  have hle : its.length = xs.length := r.length.symm
  have c0 : (decide ((0 : Int) < -(2 ^ 63)) || decide ((0 : Int) ≥ 2 ^ 63)) = false := by decide
  by_cases hc : xs = []
  · have c1 : (its.toArray.isEmpty || (0 : Int) == 1) = true := by
      subst hc
      have : its = [] := List.eq_nil_of_length_eq_zero hle
      subst this; rfl
    refine wpAny_binaryOp_repeat_ref (T := "tuple") (U := "int") (by decide) ⟨_, ho, rfl⟩ (fun s' => typeIs_int s' 0 t) noFill_tuple_mul F.fills_int_mul F.slot_int_rmul repeat_tuple F.slot_int_index.lookup
      (call_meets F.slot_int_rmul (typeIs_int s 0 t) F.entry_int_rmul (F.args_int_rmul_2 _ _) (int_rmul_tuple 0 t l its.toArray n dd sl)
        ⟨ho, rfl, ⟨_, ho, rfl⟩, call_meets F.slot_tuple_mul ⟨_, ho, rfl⟩ F.entry_tuple_mul (F.args_tuple_mul_2 _ _) (tuple_mul1 l its.toArray n dd sl 0 t c0 c1) ⟨ho, ?_⟩⟩)
    exact ⟨.ref l, H, I, rfl, q1 hc⟩
  · have hi : its.toArray.isEmpty = false := by
      cases its with
      | nil => exact absurd (List.eq_nil_of_length_eq_zero hle.symm) hc
      | cons a b => rfl
    have c1 : (its.toArray.isEmpty || (0 : Int) == 1) = false := by rw [hi]; rfl
    have c2 : (decide ((0 : Int) ≤ 0) || its.toArray.isEmpty) = true := by rw [hi]; rfl
    refine wpAny_binaryOp_repeat_ref (T := "tuple") (U := "int") (by decide) ⟨_, ho, rfl⟩ (fun s' => typeIs_int s' 0 t) noFill_tuple_mul F.fills_int_mul F.slot_int_rmul repeat_tuple F.slot_int_index.lookup
      (call_meets F.slot_int_rmul (typeIs_int s 0 t) F.entry_int_rmul (F.args_int_rmul_2 _ _) (int_rmul_tuple 0 t l its.toArray n dd sl)
        ⟨ho, rfl, ⟨_, ho, rfl⟩, call_meets F.slot_tuple_mul ⟨_, ho, rfl⟩ F.entry_tuple_mul (F.args_tuple_mul_2 _ _) (tuple_mul0 l its.toArray n dd sl 0 t c0 c1 c2) ⟨ho, ?_⟩⟩)
    refine ⟨.ref s.heap.objs.size, _, I.laid (t' := s.toks) (o := .tup []) (fun b ob q => Heap.get?_push_of_some _ q) (Nat.le_refl _) ?_, rfl, q2 hc _ (I.hok.fresh (Nat.le_refl _))⟩
    exact ⟨Nat.zero_le _, [], .nil, IsTup.new _ _⟩
def repD (k : Int) (ds : List D) : List D := (List.replicate k.toNat ds).flatten
def rRepD (K : PySem.W.Frag) : R2 := fun x y H Q => rRepA K x y H Q ∨ rRep x y H Q ∨ rRep0 K x y H Q
def gRep : G2 := fun a x y K => ∃ d ds i, vw a x = some d ∧ vw a y = some (.int i) ∧ ((d = .tuple ds ∧ 0 ≤ i ∧ i ≤ 1000 ∧ ds.length ≤ 1000 ∧ K (.d (.tuple (repD i ds)))) ∨
  (d = .list ds ∧ 0 ≤ i ∧ i ≤ 1000 ∧ ds.length ≤ 1000 ∧ K (.nl (repD i ds))))
theorem rep_len (k : Int) (ds : List D) : (repD k ds).length = k.toNat * ds.length := by
  unfold repD
  rw [List.length_flatten, List.map_replicate, List.sum_replicate_nat]
theorem d_mulS : OpR X (binaryOp .Mult) (rRepD X.K) ∧ R2S (rRepD X.K) gRep := ⟨by
  intro pins s σ H x y v u Q I rx ry h
  rcases h with h | h | h
  · exact op_repA pins s σ H x y v u Q I rx ry h
  · exact op_rep pins s σ H x y v u Q I rx ry h
  · exact op_rep0 pins s σ H x y v u Q I rx ry h, by
  intro a σ F H fps x y v u ok hx hy Kz k Q q
  obtain ⟨d, ds, i, e, ei, k⟩ := k
  have eu := vw_int ok hy ei
  rcases k with ⟨rfl, h1, h2, h3, k⟩ | ⟨rfl, h1, h2, h3, k⟩
  · obtain ⟨p, us, rfl, fp, hp, r⟩ := vw_tup ok hx e
    by_cases h0 : i = 0
    · subst h0
      refine .inr (.inr ⟨p, 0, us, rfl, eu, SqT.of hp, rfl, fun hc => ?_, fun _ l hl => ?_⟩)
      · subst hc
        cases r
        exact q _ _ F H k ok (Le.refl _ _ _) (.tup fp .nil) trivial
      · exact q _ _ _ _ k (ok.newF hl) (Le.newF ok.sub hl) (.tup upd_same .nil) trivial
    have h1 : 1 ≤ i := by omega
    refine .inl ⟨p, i, us, rfl, eu, SqT.of hp, h1, h2, by rw [r.length]; exact h3, fun hc => ?_, fun h4 h5 l hl => ?_⟩
    · have es : repD i ds = ds := by
        rcases hc with z | z
        · subst z
          have : ds = [] := List.eq_nil_of_length_eq_zero (by rw [← r.length]; rfl)
          subst this
          unfold repD; simp
        · subst z; unfold repD; simp
      exact q _ _ F H k ok (Le.refl _ _ _) (by rw [es]; exact .tup fp r) trivial
    · exact q _ _ _ _ k (ok.newF hl) (Le.newF ok.sub hl) (.tup upd_same ((r.rep _).mono (Sub.put (ok.sub.gone hl)))) trivial
  · obtain ⟨p, us, rfl, hp, r⟩ := vw_list ok hx e
    refine .inr (.inl ⟨p, i, us, rfl, eu, hp, by omega, by omega, ?_, fun l hl => ?_⟩)
    · rw [r.length, sizeLine_eq]
      have : ds.length * i.toNat ≤ 1000 * 1000 := Nat.mul_le_mul h3 (by omega)
      omega
    · exact q _ _ _ _ k (ok.newH hl) (Le.newH hl) ⟨l, _, rfl, upd_same, ok.sub.gone hl, ok.fresh hl, r.rep _⟩ fun p' e' => by cases e'; exact hl⟩
theorem pick_rev (xs : List Value) : ((List.range xs.length).filterMap fun (k : Nat) => xs.toArray[((xs.length : Int) - 1 + (k : Int) * (-1)).toNat]?).toArray = xs.reverse.toArray := by
  congr 1
  have e : ∀ n : Nat, n ≤ xs.length → ((List.range n).filterMap fun (k : Nat) => xs.toArray[((xs.length : Int) - 1 + (k : Int) * (-1)).toNat]?) = xs.reverse.take n := by
    intro n
    induction n with
    | zero => intro _; simp
    | succ n ih =>
      intro hn
      rw [List.range_succ, List.filterMap_append, ih (by omega), List.take_add_one]
      congr 1
      have e1 : ((xs.length : Int) - 1 + (n : Int) * (-1)).toNat = xs.length - 1 - n := by omega
      simp only [List.filterMap_cons, List.filterMap_nil, e1]
      rw [List.getElem?_reverse (by omega)]
      simp only [List.getElem?_toArray]
      cases xs[xs.length - 1 - n]? <;> rfl
  rw [e _ (Nat.le_refl _), List.take_of_length_le (by simp)]
theorem sliceApplied_rev {prog : Program} {w : World} {A : Around} {E : Value → Shared → Prop} {s : Shared} {sl : Addr} {vs : Value} {n : Nat} {Q : Int × Int × Nat → Shared → Prop} (hs : s.heap.IsSliceOf sl .none .none vs) (ps : IsPart vs (some (-1)))
    (h : Q ((n : Int) - 1, -1, n) s) : wpAny (model prog w) A (Builtin.Slice.sliceApplied (.ref sl) (pure (n : Int))) Q E s := by
  obtain ⟨os, hos, hcs, hds⟩ := id hs
  unfold Builtin.Slice.sliceApplied Builtin.Slice.sliceFields
  refine wpAny_bind (wpAny_bind (wpAny_field hos hds (x := .none) rfl (wpAny_bind (wpAny_field hos hds (x := .none) rfl (wpAny_bind (wpAny_field hos hds (x := vs) rfl (wpAny_pure ?_)))))))
  refine wpAny_bind (HT.slicePart_ ps ?_)
  show wpAny _ _ (if ((-1 : Int) == 0) = true then _ else _) _ _ s
  rw [if_neg (by decide)]
  refine wpAny_bind (HT.slicePart_ .none (wpAny_bind (HT.slicePart_ .none (wpAny_bind (wpAny_pure ?_)))))
  have e1 : Builtin.Slice.sliceAdjust none none (-1) (n : Int) = ((n : Int) - 1, -1) := by unfold Builtin.Slice.sliceAdjust; rfl
  show wpAny _ _ (match Builtin.Slice.sliceAdjust none none (-1) (n : Int) with | (lo, hi) => pure (lo, (-1 : Int), Builtin.Slice.slicePlaces lo hi (-1))) _ _ s
  rw [e1]
  have e2 : Builtin.Slice.slicePlaces ((n : Int) - 1) (-1) (-1) = n := by
    unfold Builtin.Slice.slicePlaces
    rw [if_neg (by decide)]
    by_cases hn : n = 0
    · subst hn; rfl
    · rw [if_pos (by omega)]
      have : ((n : Int) - 1 - -1 - 1) / (- -1) + 1 = n := by
        rw [show (- -1 : Int) = 1 from rfl, Int.ediv_one]; omega
      rw [this]; rfl
  show wpAny _ _ (pure ((n : Int) - 1, (-1 : Int), Builtin.Slice.slicePlaces ((n : Int) - 1) (-1) (-1))) _ _ s
  rw [e2]
  exact wpAny_pure h
theorem getItem_tuple_rev {prog : Program} {w : World} {A : Around} {E : Value → Shared → Prop} {s : Shared} {t sl : Addr} {its : List Value} {vs : Value} {Q : Value → Shared → Prop} (ht : IsTup s.heap t its.toArray) (hs : s.heap.IsSliceOf sl .none .none vs) (ps : IsPart vs (some (-1)))
    (h : Q (.ref s.heap.objs.size) { s with heap := s.heap.push { cls := .type "tuple", data := .seq its.reverse.toArray } })
    (hsz : its.length ≤ sizeLine) : wpAny (model prog w) A (getItem (.ref t) (.ref sl)) Q E s := by
  have htake : sizeOk (.seq its.reverse.toArray) := by
    show its.reverse.toArray.size ≤ sizeLine
    rw [List.size_toArray, List.length_reverse]; exact hsz
  obtain ⟨os, hos, hcs, hds⟩ := id hs
  have hTs : s.TypeIs (.ref sl) "slice" := ⟨os, hos, hcs⟩
  unfold getItem
  try with_reducible refine wpAny_holding ?_
  first | refine wpAny_bind (wpAny_pure ?_) | skip
  refine wpAny_bind (wpAny_sequenceKey ht.typeIs (by decide) ?_)
  refine wpAny_bind (wpAny_callSpecial?_slot (name := Str.ofString "__getitem__") ht.typeIs PyProof.Rows.slot_tuple_getitem
    (wpAny_call_entry PyProof.Rows.slot_tuple_getitem ht.typeIs entry_tuple_getitem ?_ (args_tuple_getitem _ _)))
  show wpAny _ _ (Builtin.Tuple.tupleItemsOf (.ref t) >>= _) _ _ s
  refine wpAny_bind (tupleItemsOf_ ht ?_)
  refine wpAny_bind (wpAny_typeOf hTs ?_)
  rw [if_pos (by decide)]
  refine wpAny_bind (sliceApplied_rev (n := its.toArray.size) hs ps ?_)
  have hno : ¬ (((((its.toArray.size : Nat) : Int) - 1) == 0 && (-1 : Int) == 1 && its.toArray.size == its.toArray.size) = true) := by
    simp
  show wpAny _ _ (if ((((its.toArray.size : Nat) : Int) - 1) == 0 && (-1 : Int) == 1 && its.toArray.size == its.toArray.size) = true then _ else _) _ _ s
  rw [if_neg hno, List.size_toArray, pick_rev]
  first
    | exact wpAny_bind (m := Builtin.Tuple.tupleExact _) (wpAny_newObj_type (wpAny_pure ⟨_, rfl, wpAny_pure h⟩) htake)
    | exact wpAny_bind (m := Builtin.Tuple.tupleExact _) (wpAny_newObj_type (wpAny_bind (wpAny_pure (wpAny_pure ⟨_, rfl, wpAny_pure h⟩))) htake)
    | exact wpAny_bind (wpAny_bind (m := Builtin.Tuple.tupleExact _) (wpAny_newObj_type (wpAny_pure (wpAny_pure ⟨_, rfl, wpAny_pure h⟩)) htake))
    | exact wpAny_bind (wpAny_bind (m := Builtin.Tuple.tupleExact _) (wpAny_newObj_type (wpAny_pure ⟨_, rfl, wpAny_pure h⟩) htake))
end
end DL
namespace DL
open PySem PySem.Spec PyProof.Rows L2
section
variable {X : Cx} {E : XK} {pos : Pos} {ea : Expr} {ta : TE} {wa : WE}
def rRepr : List V → Hp → VK → Prop := fun xs H Q => ∃ p d, xs = [.ref p] ∧ Rep H (.ref p) d ∧ d.showable = true ∧ d.hasDict = false ∧ d.depth ≤ 150 ∧ d.shown.length ≤ 100000 ∧ Q (.str d.shown) H
def gRepr : GC := fun a xs K => ∃ x d ds, xs = [x] ∧ vw a x = some d ∧ itemsD d = some ds ∧ d.showable = true ∧ d.hasDict = false ∧ d.depth ≤ 150 ∧ d.shown.length ≤ 100000 ∧ K (.d (.str d.shown))
theorem d_repr (hu : X.A.units + 200 < cLine) (hgd : X.A.guards = some []) : CallR X (.builtin "repr") rRepr ∧ RCS rRepr gRepr := ⟨by
  intro pins s σ H xs us Q I r h
  obtain ⟨p, d, rfl, rp, h1, h2, h3, h4, q⟩ := h
  rw [Vals.ref1 r]
  obtain ⟨as, ra⟩ := reads_of I (x := .ref p) (v := .ref p) rfl rp
  exact repr_of_reads' ra h1 (fun h' => absurd (h2.symm.trans h') Bool.false_ne_true) hgd (by omega) (fun _ _ e => e) (fun h' u tk hk => ⟨.str _, H, I.kept (t' := tk) hk, ⟨u, rfl⟩, q⟩) (by rw [sizeLine_eq]; omega), by
  intro a σ F H fps xs vs ok hv Kz k Q q
  obtain ⟨x, d, ds, rfl, e, i, h1, h2, h3, h4, k⟩ := k
  obtain ⟨v, rfl, h⟩ := vals_one hv
  obtain ⟨p, us, rfl, hp, r⟩ := vw_items ok h e i
  exact ⟨p, d, rfl, vw_rep ok h e, h1, h2, h3, h4, q _ _ F H k ok (Le.refl _ _ _) (.str _) trivial⟩⟩
def tRevD (K : PySem.W.Frag) (te : TE) : TE := fun σ H Q => te σ H fun x H1 => ∃ a xs, x = .ref a ∧ ((SqL K H1 a xs ∧ ∀ p, H1 p = none → Q (.ref p) (upd H1 p (.lst xs.reverse))) ∨ (SqT K H1 a xs ∧ ∀ p, H1 p = none → Q (.ref p) (upd H1 p (.tup xs.reverse))))
theorem pe_revD {e : Expr} {te : TE} {k : Nat} {p1 p2 p3 pos : Pos} (he : PE X e te) : PE X (.Subscript e (.Slice none none (some (.UnaryOp .USub (.Constant (.int 1) k p1) p2)) p3) pos) (tRevD X.K te) := by
  refine ⟨fun pins s σ H Q I h => ?_⟩
  refine Subscript_ (thn (he.run pins s σ H _ I h) fun v s1 ⟨x, H1, I1, r1, q1⟩ => ?_)
  obtain ⟨a, xs, ex, q1⟩ := q1
  subst ex
  cases r1
  have hst : PO X (some (.UnaryOp .USub (.Constant (.int 1) k p1) p2)) (tPart (tUn (rU fun i => .int (-i)) (tC (.int 1)))) := po_some (pe_un un_neg pe_int)
  refine wpAny_Slice (thn (po_none.run pins s1 σ H1 (fun o H2 => o = none ∧ H2 = H1) I1 ⟨rfl, rfl⟩) fun vl s2 ⟨l, H2, I2, pl, el, e2⟩ => ?_)
  subst el e2
  refine thn (po_none.run pins s2 σ H2 (fun o H3 => o = none ∧ H3 = H2) I2 ⟨rfl, rfl⟩) fun vu s3 ⟨u, H3, I3, pu, eu, e3⟩ => ?_
  subst eu e3
  refine thn (hst.run pins s3 σ H3 (fun o H4 => o = some (-1) ∧ H4 = H3) I3 ⟨1, rfl, -1, rfl, rfl, rfl⟩) fun vs s4 ⟨o, H4, I4, ps, eo, e4⟩ => ?_
  subst eo e4
  have I5 : Inv X pins σ H4 { s4 with heap := s4.heap.push { cls := .type "slice", data := .fields #[vl, vu, vs] } } := I4.kept (t' := s4.toks) fun b ob q => Heap.get?_push_of_some _ q
  show wpAny (model X.prog X.w) X.A (subscriptTail e (.Slice none none (some (.UnaryOp .USub (.Constant (.int 1) k p1) p2)) p3) (.ref a) (.ref s4.heap.objs.size)) (EP X pins σ Q) X.xe { s4 with heap := s4.heap.push { cls := .type "slice", data := .fields #[vl, vu, vs] } }
  rcases q1 with ⟨hx, q⟩ | ⟨hx, q⟩
  · obtain ⟨its, r, ht, hz⟩ := I5.list hx
    have hlen := r.length
    refine tail_any (ops := [.ref a, .ref s4.heap.objs.size]) ht.isList.typeIs (PySem.slot_list_getitem.lookup) ?_ (by with_unfolding_all rfl)
    refine wpAny_getItem_list_slice ht.isList (Heap.IsSliceOf.new _ vl vu vs) pl pu ps (by decide) ?_ (by rw [List.size_toArray]; omega)
    rw [PySem.W.krv_pick]
    refine ⟨.ref _, _, I5.laid (t' := s4.toks) (o := .lst xs.reverse) (fun b ob q => Heap.get?_push_of_some _ q) (Nat.le_refl _) ?_, rfl, q _ (I5.hok.fresh (Nat.le_refl _))⟩
    exact ⟨by rw [List.length_reverse]; exact hz, _, 0, r.reverse, Heap.get?_push_size _ rfl⟩
  · obtain ⟨its, r, ht, hz⟩ := I5.tuple hx
    have hlen := r.length
    cases pl
    cases pu
    refine tail_any (ops := [.ref a, .ref s4.heap.objs.size]) (IsTup.typeIs ht) (PyProof.Rows.slot_tuple_getitem.lookup) ?_ (by with_unfolding_all rfl)
    refine getItem_tuple_rev ht (Heap.IsSliceOf.new _ .none .none vs) ps ?_ (by omega)
    refine ⟨.ref _, _, I5.laid (t' := s4.toks) (o := .tup xs.reverse) (fun b ob q => Heap.get?_push_of_some _ q) (Nat.le_refl _) ?_, rfl, q _ (I5.hok.fresh (Nat.le_refl _))⟩
    exact ⟨by rw [List.length_reverse]; exact hz, _, r.reverse, IsTup.new _ _⟩
def wRev (wa : WE) : WE := fun a K B => wa a (fun x a1 => ∃ d ds, vw a1 x = some d ∧ ((d = .list ds ∧ K (.nl ds.reverse) a1) ∨ (d = .tuple ds ∧ K (.d (.tuple ds.reverse)) a1))) B
theorem de_rev {k : Nat} {p1 p2 p3 pos : Pos} (h : DE X E ea ta wa) : DE X E (.Subscript ea (.Slice none none (some (.UnaryOp .USub (.Constant (.int 1) k p1) p2)) p3) pos) (tRevD X.K ta) (wRev wa) := ⟨pe_revD h.pe, by
  intro a K B k σ F H fps x Q q b
  refine h.so a _ B k σ F H fps x _ (fun r1 a1 v1 F1 H1 ⟨d, ds, e1, k1⟩ n1 x1 l1 o1 w1 => ?_) b
  rcases k1 with ⟨rfl, k1⟩ | ⟨rfl, k1⟩
  · obtain ⟨p, us, rfl, hp, r⟩ := vw_list x1 o1 e1
    refine ⟨p, us, rfl, .inl ⟨SqL.of hp, fun l hl => ?_⟩⟩
    exact q _ a1 _ _ _ k1 n1 (x1.newH hl) (l1.trans (Le.newH hl)) ⟨l, _, rfl, upd_same, x1.sub.gone hl, x1.fresh hl, r.rev⟩ fun p' e' => by cases e'; exact l1.ex _ hl
  · obtain ⟨p, us, rfl, fp, hp, r⟩ := vw_tup x1 o1 e1
    refine ⟨p, us, rfl, .inr ⟨SqT.of hp, fun l hl => ?_⟩⟩
    exact q _ a1 _ _ _ k1 n1 (x1.newF hl) (l1.trans (Le.newF x1.sub hl)) (.tup upd_same (r.rev.mono (Sub.put (x1.sub.gone hl)))) trivial⟩
end
end DL
namespace DL
open PySem PySem.Spec PyProof.Rows L2
def setHO (w : World) (D : Addr) (ks : List Int) : HO := SetO w D (fun j => ks.any (· == j)) ks.length
theorem dedup_any (ks : List Int) (k j : Int) : (step_dedup ks k).any (· == j) = (ks.any (· == j) || decide (j = k)) := by
  unfold step_dedup
  cases h : ks.any (· == k) with
  | true =>
    simp only [if_true]
    by_cases e : j = k
    · subst e; rw [h]; simp
    · simp [e]
  | false =>
    simp only [Bool.false_eq_true, if_false, List.any_append, List.any_cons, List.any_nil, Bool.or_false]
    congr 1
    by_cases e : j = k
    · subst e; simp
    · have : (k == j) = false := beq_eq_false_iff_ne.mpr fun z => e z.symm
      simp [e, this]
theorem dedup_len (ks : List Int) (k : Int) : (step_dedup ks k).length = if ks.any (· == k) = true then ks.length else ks.length + 1 := by
  unfold step_dedup
  cases h : ks.any (· == k) with
  | true => simp
  | false => simp
theorem dedup_le (ks : List Int) (k : Int) : (step_dedup ks k).length ≤ ks.length + 1 := by
  rw [dedup_len]; split <;> omega
section
variable {X : Cx} {pins : List (Addr × Obj)} {σ : Sgm} {H : Hp} {s : Shared} {D : Addr} {ks : List Int}
theorem put_int {k : Int} {tk : Tok} {E : Value → Shared → Prop} {Q : Value → Shared → Prop} (I : Inv X pins σ H s) (hD : H D = some (setHO X.w D ks)) (room : ks.length + 1 < scanBound)
    (q : ∀ s', Inv X pins σ (upd H D (setHO X.w D (step_dedup ks k))) s' → Q .none s') : wpAny (model X.prog X.w) X.A (call (.builtin "set.add") [.ref D, .int k tk]) Q E s := by
  have hR : SetR X.w s.heap D (fun j => ks.any (· == j)) ks.length := setO_get I hD
  refine setR_add hR room fun h' same new => q _ ?_
  have e1 : (fun j => (ks.any (· == j)) || decide (j = k)) = fun j => (step_dedup ks k).any (· == j) := funext fun j => (dedup_any ks k j).symm
  have new' : SetR X.w h' D (fun j => (step_dedup ks k).any (· == j)) (step_dedup ks k).length := by
    rw [dedup_len, ← e1]; exact new
  obtain ⟨o, _, _, _, ho, _⟩ := id new'
  exact I.write (e := D) (t' := s.toks + 1) (by rw [hD]; trivial) (.inl rfl) (fun b u hb hu => (same.2 b hb).trans hu) ⟨o, ho⟩ (setO_new new')
end
def tScI (w : World) (wi : TI) (g : TG) (tt : TT) (te : TE) (vs : List Nat) : TE := fun σ H Q => wi σ H fun J H1 => ∀ D, H1 D = none → ∃ W : Nat → Nat → Hp → Prop, (∃ m, W 0 m (upd H1 D (setHO w D []))) ∧
  ∀ i m H, W i m H → (J.stop i H ∧ Q (.ref D) H) ∨ (J.go i H ∧ ∃ N : Hp → Prop, (∀ H', N H' → ∃ m', m' < m ∧ W (i + 1) m' H') ∧
    ∀ x H', J.yld i H x H' → g x (L2.wipe σ vs) H' fun σ2 H2 => L2.wipe σ2 vs = L2.wipe σ vs ∧ tt σ2 H2 fun b H3 =>
      if b = true then te σ2 H3 fun y H4 => ∃ (k : Int) (ks : List Int), y = .int k ∧ H4 D = some (setHO w D ks) ∧ ks.length + 1 < scanBound ∧ N (upd H4 D (setHO w D (step_dedup ks k))) else N H3)
abbrev emptySet (w : World) : Obj := { cls := .type "set", dict := none, data := .set #[] 0 (.fresh 0 0 (!w.params.followText "set-order")) }
section
variable {X : Cx} {elt tg iter : Expr} {ifs : List Expr} {scope : Scope} {own : List (Str × Nat)} {pos : Pos} {wi : TI} {g : TG} {tt : TT} {te : TE}
theorem sc_turns (hc : X.calm = true) {s3 s4 : Shared} {H3 : Hp} {ce : Env} {fp : List Addr} {tn : Nat → Heap → Prop} {J : It} {it D : Addr} {σ : Sgm} {R : Result → Shared → Prop} {Q : VK}
    (T : Turn X.prog X.w X.K tg J fp it tn) (I4 : Inv (X.blk s3 H3 scope ce fp) [] (L2.wipe σ (own.map (·.2))) H3 s4) (st4 : tn 0 s4.heap) (nfp : ∀ b ∈ fp, H3 b = none)
    (pg : PG (X.blk s3 H3 scope ce fp) tg g) (pt : PTs (X.blk s3 H3 scope ce fp) ifs tt) (pe : PE (X.blk s3 H3 scope ce fp) elt te)
    {W : Nat → Nat → Hp → Prop} {m0 : Nat} (w0 : W 0 m0 H3)
    (turn : ∀ i m H, W i m H → (J.stop i H ∧ Q (.ref D) H) ∨ (J.go i H ∧ ∃ N : Hp → Prop, (∀ H', N H' → ∃ m', m' < m ∧ W (i + 1) m' H') ∧
      ∀ x H', J.yld i H x H' → g x (L2.wipe σ (own.map (·.2))) H' fun σ2 H2 => L2.wipe σ2 (own.map (·.2)) = L2.wipe σ (own.map (·.2)) ∧ tt σ2 H2 fun b H3 =>
        if b = true then te σ2 H3 fun y H4 => ∃ (k : Int) (ks : List Int), y = .int k ∧ H4 D = some (setHO X.w D ks) ∧ ks.length + 1 < scanBound ∧ N (upd H4 D (setHO X.w D (step_dedup ks k))) else N H3))
    (out : ∀ s6 H5, Inv (X.blk s3 H3 scope ce fp) [] (L2.wipe σ (own.map (·.2))) H5 s6 → Q (.ref D) H5 → R (.ok .next) s6) :
    codeAny (model X.prog X.w) X.A (.compLoop (.SetComp elt [⟨tg, iter, ifs, 0⟩] scope pos) 0 (.ref it) (.ref D) ce) R s4 := by
  have stat : ∀ {σ' : Sgm} {H' : Hp} {s' : Shared}, Inv (X.blk s3 H3 scope ce fp) [] σ' H' s' → (∀ b ∈ fp, H' b = none) → ∀ b ∈ fp, FpOk (X.blk s3 H3 scope ce fp) [] H' b :=
    fun {σ' H' s'} J' hn b hb => ⟨hn b hb, (J'.ok.exf b hb).1, J'.ok.exfs b hb, .inl hb, fun x c e => (J'.ok.exf b hb).2 x c e, fun p hp => absurd hp (by simp)⟩
  refine PpSet.compLoopS_any (fun n s' => ∃ i H', Inv (X.blk s3 H3 scope ce fp) [] (L2.wipe σ (own.map (·.2))) H' s' ∧ tn i s'.heap ∧ (∀ b ∈ fp, H' b = none) ∧ W i n H') ?_ m0 ⟨0, H3, I4, st4, nfp, w0⟩
  rintro n s5 ⟨i, H5, I5, st5, n5, w5⟩
  rcases turn i n H5 w5 with ⟨stop, qq⟩ | ⟨go, N, hN, step⟩
  · refine thnF (T.done (X.blk s3 H3 scope ce fp) rfl rfl rfl hc i [] s5 _ H5 (fun _ _ => False) I5 (stat I5 n5) st5 stop) fun r s6 ⟨hr, I6⟩ => ?_
    subst hr
    exact out s6 H5 I6 qq
  · refine thnF (T.item (X.blk s3 H3 scope ce fp) rfl rfl rfl hc i [] s5 _ H5 (fun _ _ => False) I5 (stat I5 n5) st5 go) fun r s6 ⟨u, hr, h6⟩ => ?_
    subst hr
    refine thnF h6 fun _ s7 ⟨x, H7, I7, r7, y7, st7, n7⟩ => ?_
    refine thnF (pg.run _ s7 _ H7 x u _ (I7.pinned (stat I7 n7) (T.obj _ _ st7)) r7 (step x H7 y7)) fun _ s8 ⟨σ8, H8, I8, hw8, q8⟩ => ?_
    refine thnF (pt.run _ s8 σ8 H8 _ I8 q8) fun b s9 ⟨H9, I9, q9⟩ => ?_
    have back : ∀ {s' : Shared} {H' : Hp}, Inv (X.blk s3 H3 scope ce fp) ([] ++ pinsAt fp s7.heap) σ8 H' s' → N H' →
        ∃ m, m < n ∧ ∃ i H', Inv (X.blk s3 H3 scope ce fp) [] (L2.wipe σ (own.map (·.2))) H' s' ∧ tn i s'.heap ∧ (∀ b ∈ fp, H' b = none) ∧ W i m H' := fun {s' H'} J' nx => by
      obtain ⟨m', hm, w'⟩ := hN H' nx
      have held : ∀ b ∈ fp, ∀ o, s7.heap.get? b = some o → s'.heap.get? b = some o ∧ H' b = none := fun b hb o e => by
        have z := J'.pin (b, o) (List.mem_append_right _ (List.mem_append_right _ (mem_pinsAt hb e)))
        exact ⟨z.1, z.2.1⟩
      refine ⟨m', hm, i + 1, H', (J'.unpinned (pins := [])).weak (by rw [← hw8, wipe_length]) (fun j v e => ?_), T.keep _ _ _ st7 fun b hb o e => (held b hb o e).1, fun b hb => ?_, w'⟩
      · rw [← hw8] at e
        exact (wipe_some e).1
      · obtain ⟨o, e, _⟩ := T.obj _ _ st7 b hb
        exact (held b hb o e).2
    cases b with
    | false =>
      rw [if_neg Bool.false_ne_true] at q9
      rw [if_neg Bool.false_ne_true]
      exact back I9 q9
    | true =>
      rw [if_pos rfl] at q9
      rw [if_pos rfl]
      refine thnF (pe.run _ s9 σ8 H9 _ I9 q9) fun z s10 ⟨yv, H10, I10, r10, k, ks, ey, hD10, hz10, nx⟩ => ?_
      subst ey
      obtain ⟨tk, rfl⟩ := r10
      exact put_int (X := X.blk s3 H3 scope ce fp) I10 hD10 hz10 fun s11 I11 => back I11 nx
theorem pe_scI (hc : X.calm = true) (hN : X.N.Nodup) (hi : PI X tg iter wi) (ok : BlkOk X.N X.env.scope scope own)
    (hg : ∀ (s : Shared) (H : Hp) (C : Addr) (cl : List (Str × Addr)) (fp : List Addr), PG (X.blk s H scope (compEnvC scope cl C X.env) fp) tg g) (ht : ∀ (s : Shared) (H : Hp) (C : Addr) (cl : List (Str × Addr)) (fp : List Addr), PTs (X.blk s H scope (compEnvC scope cl C X.env) fp) ifs tt)
    (he : ∀ (s : Shared) (H : Hp) (C : Addr) (cl : List (Str × Addr)) (fp : List Addr), PE (X.blk s H scope (compEnvC scope cl C X.env) fp) elt te) (hs : ∀ x, foldedSetIterable iter X.env x = pure x := by intro _; rfl) :
    PE X (.SetComp elt [⟨tg, iter, ifs, 0⟩] scope pos) (tScI X.w wi g tt te (own.map (·.2))) := by
  refine ⟨fun pins s σ H Q I h => ?_⟩
  rw [PpSet.eval_SetComp]
  have hfree : ∀ y ∈ scope.names, y.2 = .free → ∃ c, X.env.cells.lookup y.1 = some c := fun y hy e => (ok.free y hy e).elim (fun k => I.ok.has _ (.inl k)) fun k => I.ok.has _ (.inr k)
  refine wpAny_comprehension_free (use := none) rfl hs (closure_ok hfree) ok.kind (fun y hy e => by rw [ok.uniq y hy, e]) (thn (hi.run pins s σ H _ I h) fun xv s1 hx => thn hx fun itv s2 ⟨it, fp, tn, J, H2, e, I2, T, st2, f2, q⟩ => ?_)
  subst e
  refine PpSet.newSet_ok (newEnv_comp ?_)
  have hDn : H2 s2.heap.objs.size = none := I2.hok.fresh (Nat.le_refl _)
  obtain ⟨W, ⟨m0, w0⟩, turn⟩ := q s2.heap.objs.size hDn
  have I3 : Inv X pins σ (upd H2 s2.heap.objs.size (setHO X.w s2.heap.objs.size [])) { s2 with heap := s2.heap.push (emptySet X.w) } :=
    I2.laid (t' := s2.toks) (fun b o e => Heap.get?_push_of_some _ e) (Nat.le_refl _) (setO_new (setR_fresh X.w))
  have f3 : ∀ b ∈ fp, FpOk X pins (upd H2 s2.heap.objs.size (setHO X.w s2.heap.objs.size [])) b ∧ b < (s2.heap.push (emptySet X.w)).objs.size := fun b hb => by
    obtain ⟨o, e, _⟩ := T.obj _ _ st2 b hb
    have hlt : b < s2.heap.objs.size := Heap.lt_size e
    refine ⟨⟨?_, (f2 b hb).2⟩, by rw [Heap.size_push]; exact Nat.lt_succ_of_lt hlt⟩
    rw [upd_ne (Nat.ne_of_lt hlt)]
    exact (f2 b hb).1
  have st3 : tn 0 (s2.heap.push (emptySet X.w)) := T.keep _ _ _ st2 fun b _ o e => Heap.get?_push_of_some _ e
  generalize hH3 : upd H2 s2.heap.objs.size (setHO X.w s2.heap.objs.size []) = H3 at *
  have nfp : ∀ b ∈ fp, H3 b = none := fun b hb => (f3 b hb).1.1
  have I4 := block_start I3 ok hN f3
  have st4 : tn 0 (pushCells ((s2.heap.push (emptySet X.w)).push { cls := .type "dict", data := .dict #[] }) scope.names) :=
    T.keep _ _ _ st3 fun b _ o e => pushCells_keeps _ _ _ _ (Heap.get?_push_of_some _ e)
  refine PpSet.codeAny_compStart_set ?_ (T.self X.A 0 _ _ _ st4 ?_)
  all_goals
    refine sc_turns hc T I4 st4 nfp (hg _ _ _ _ _) (ht _ _ _ _ _) (he _ _ _ _ _) w0 turn fun s6 H5 I6 qq => ?_
    have I7 : Inv X pins σ H5 s6 := I3.call' (ch := fp) I6.os I6.base I6.hok I6.bare fun b hb => ⟨(f3 b hb).1.2.2.2.1, (f3 b hb).1.2.1, (f3 b hb).1.2.2.2.2.1, (f3 b hb).1.2.2.2.2.2⟩
    have nC : H5 (s2.heap.push (emptySet X.w)).objs.size = none := I6.free
    obtain ⟨m, hn, _⟩ := I6.loc
    obtain ⟨g0, g1, g2, g3, g4, g5⟩ := I3.fpOk (Nat.le_refl _) nC
    exact ⟨m, hn, fun h'' sb => ⟨.ref _, H5, I7.turned (t' := s6.toks) (fun b o hb e => (sb.2 b hb).trans e) g0 g1 g3 g4 g5, rfl, qq⟩⟩
end
def rLenSet (w : World) : List V → Hp → VK → Prop := fun xs H Q => ∃ D ks, xs = [.ref D] ∧ H D = some (setHO w D ks) ∧ Q (.int (ks.length : Nat)) H
theorem cr_lenSet {X : Cx} : CallR X (.builtin "len") (rLenSet X.w) := by
  intro pins s σ H xs us Q I r h
  obtain ⟨D, ks, rfl, hD, q⟩ := h
  rw [Vals.ref1 r]
  obtain ⟨o, es, ep, t, ho, hex, hd, _, _, _, hb, hf, hn, _⟩ := (show SetR X.w s.heap D (fun j => ks.any (· == j)) ks.length from setO_get I hD)
  have hb' : es.size < 4000000 := by
    have : scanBound ≤ 4000000 := by decide
    omega
  exact call_len_set ho hex hd hf (by omega) ⟨.int (ks.length : Nat), H, I.tok _, ⟨_, by rw [hn]⟩, q⟩
end DL
namespace DL
open PySem PySem.Spec PyProof.Rows L2
def tLenSc (w : World) (wi : TI) (g : TG) (tt : TT) (te : TE) (vs : List Nat) : TE := tCB (rLenSet w) (tCons (tScI w wi g tt te vs) tNil)
def wLenSc (w : WI) (wg : WG) (wt : WT) (we : WE) (vs : List Nat) : WE := fun a K B => w a (fun xs a1 => xs.length ≤ 4000 ∧ ∃ I : Nat → List Int → List Own → Prop, I 0 [] a1.ow ∧
  (∀ ks ow, I xs.length ks ow → K (.d (.int (ks.length : Nat))) { a1 with ow := ow }) ∧
  ∀ k x ks ow, xs[k]? = some x → I k ks ow → wg x { a1 with sl := wipeS a1.sl vs, ow := ow } (fun a3 => wt a3 (fun b a4 =>
    (b = true → we a4 (fun r a5 => ∃ y, vw a5 r = some (.int y) ∧ I (k + 1) (step_dedup ks y) a5.ow) (fun _ _ => False)) ∧ (b = false → I (k + 1) ks a4.ow)) (fun _ _ => False))) B
theorem AOk.mutD {a : AS} {σ : Sgm} {F H : Hp} {fps : List (List Addr)} (x : AOk a σ F H fps) {p : Addr} {o : HO} (hf : F p = none) (hn : p ∉ fps.flatten) (ht : ∀ xs, o ≠ .tup xs := by intro _ z; cases z) : AOk a σ F (upd H p o) fps :=
  ⟨x.sub.mut hf, x.nd, x.len, fun j fp c e1 e2 => (x.own j fp c e1 e2).mono (Sub.refl _) fun q hq u e => by rw [upd_ne (fun z => hn (by rw [← z]; exact flat_mem e1 hq))]; exact e, x.nf, x.ln, x.sl, x.nn, tp_upd x.tp ht⟩
theorem Le.mutD {F H F' H' : Hp} {P P' : List Addr} (l : Le F H P F' H' P') {p : Addr} {o : HO} (hp : H p = none) : Le F H P F' (upd H' p o) P' :=
  ⟨l.fr, fun b u nb e => by
    by_cases hb : b = p
    · subst hb; rw [hp] at e; cases e
    · rw [upd_ne hb]; exact l.hp b u nb e, l.nw, l.pw, fun b e => by
    by_cases hb : b = p
    · subst hb; exact hp
    · rw [upd_ne hb] at e; exact l.ex b e⟩
theorem snd_lenSc {E : XK} {w0 : World} {wi : TI} {w : WI} {us vs : List Nat} {g : TG} {wg : WG} {tt : TT} {wt : WT} {te : TE} {we : WE} (hi : SndI E wi w) (hu : ∀ j ∈ us, j ∈ vs) (hg : SndG us g wg) (ht : SndT E0 tt wt) (he : SndE E0 te we) :
    SndE E (tLenSc w0 wi g tt te vs) (wLenSc w wg wt we vs) := by
  intro a K B k σ F H fps x Q q b
  show wi σ H _
  refine hi a _ B k σ F H fps x _ (fun xs a1 F1 H1 J k1 n1 x1 l1 so => ?_) b
  obtain ⟨hz, I, i0, iend, turn⟩ := k1
  intro D hD
  have hn : D ∉ fps.flatten := x1.fresh hD
  have hf : F1 D = none := x1.sub.gone hD
  let G : Nat → Hp → Prop := fun i H2 => ∃ ks ow F2, I i ks ow ∧ ks.length ≤ i ∧ AOk { a1 with ow := ow } σ F2 H2 fps ∧ Le F1 H1 fps.flatten F2 H2 fps.flatten ∧ H2 D = some (setHO w0 D ks) ∧ F2 D = none
  refine ⟨fun i m H2 => m = xs.length - i ∧ i ≤ xs.length ∧ G i H2, ⟨xs.length, by simp, Nat.zero_le _, [], a1.ow, F1, i0, Nat.le_refl _, x1.newH hD, Le.newH hD, upd_same, hf⟩, ?_⟩
  rintro i m H2 ⟨rfl, hi, ks, ow, F2, ii, hk, x2, l2, h2, f2⟩
  by_cases hlt : i < xs.length
  · refine .inr ⟨so.go i H2 (l2.fr.trans x2.sub) hlt, G (i + 1), fun H' h => ⟨xs.length - (i + 1), by omega, rfl, hlt, h⟩, fun v H' y => ?_⟩
    have hd : xs[i]? = some xs[i] := List.getElem?_eq_getElem hlt
    have main : ∀ F3, AOk { a1 with ow := ow } σ F3 H' fps → Le F2 H2 fps.flatten F3 H' fps.flatten → Rep F3 v xs[i] → g v (L2.wipe σ vs) H' fun σ2 H2 => L2.wipe σ2 vs = L2.wipe σ vs ∧ tt σ2 H2 fun b H3 =>
        if b = true then te σ2 H3 fun y H4 => ∃ (k : Int) (ks : List Int), y = .int k ∧ H4 D = some (setHO w0 D ks) ∧ ks.length + 1 < scanBound ∧ G (i + 1) (upd H4 D (setHO w0 D (step_dedup ks k))) else G (i + 1) H3 := by
      intro F3 x3 l3 r3
      refine hg.run _ _ _ (turn i _ ks ow hd ii) (L2.wipe σ vs) F3 H' fps v (x3.wipe vs) r3 _ fun a4 σ4 k4 n4 w4 x4 ln4 e4 => ⟨wipe_eq hu ln4 e4, ?_⟩
      refine ht a4 _ _ k4 σ4 F3 H' fps x4 _ (fun bb a5 F5 H5 k5 n5 x5 l5 => ?_) noB
      have D5 : H5 D = some (setHO w0 D ks) := l5.hp D _ hn (l3.hp D _ hn h2)
      have N5 : F5 D = none := (l3.trans l5).noF h2 hn f2
      have x5' := x3.cells x5 l5.fr (n5.trans n4)
      cases bb with
      | false =>
        rw [if_neg Bool.false_ne_true]
        exact ⟨ks, a5.ow, F5, k5.2 rfl, by omega, x5', (l2.trans l3).trans l5, D5, N5⟩
      | true =>
        rw [if_pos rfl]
        refine he a5 _ _ (k5.1 rfl) σ4 F5 H5 fps x5 _ (fun r a6 u F6 H6 ⟨z, e6, k6⟩ n6 x6 l6 o6 w6 => ?_) noB
        have D6 : H6 D = some (setHO w0 D ks) := l6.hp D _ hn D5
        have N6 : F6 D = none := l6.noF D5 hn N5
        have x6' : AOk { a1 with ow := a6.ow } σ F6 H6 fps := x5'.cells x6 l6.fr (n6.trans (n5.trans n4))
        have hsz : ks.length + 1 < scanBound := by unfold scanBound; omega
        refine ⟨z, ks, vw_int x6 o6 e6, D6, hsz, step_dedup ks z, a6.ow, F6, k6, by have := dedup_le ks z; omega, x6'.mutD N6 hn, (((l2.trans l3).trans l5).trans l6).mutD hD, upd_same, N6⟩
    rcases so.yld i H2 v H' F2 l2.fr x2.sub y _ hd with ⟨e, r⟩ | ⟨p, o, hp, e, r⟩
    · subst e
      exact main F2 x2 (Le.refl _ _ _) r
    · subst e
      exact main _ (x2.newF hp) (Le.newF x2.sub hp) r
  · have e : i = xs.length := by omega
    subst e
    exact .inl ⟨so.stop _ H2 (l2.fr.trans x2.sub) (Nat.le_refl _), D, ks, rfl, h2, q _ _ _ F2 H2 (iend ks ow ii) n1 x2 (l1.trans l2) (.int _) trivial⟩
section
variable {X : Cx} {E : XK} {elt tg iter : Expr} {ifs : List Expr} {scope : Scope} {own : List (Str × Nat)} {p pos spos : Pos} {wi : TI} {w : WI} {us : List Nat} {g : TG} {wg : WG} {tt : TT} {wt : WT} {te : TE} {we : WE}
theorem de_lenSc (hc : X.calm = true) (hN : X.N.Nodup) (hgl : Gl X "len") (hml : X.mg "len" = none) (hi : DI X E tg iter wi w) (ok : BlkOk X.N X.env.scope scope own) (hu : ∀ j ∈ us, j ∈ own.map (·.2))
    (hg : ∀ (s : Shared) (H : Hp) (C : Addr) (cl : List (Str × Addr)) (fp : List Addr), DG (X.blk s H scope (compEnvC scope cl C X.env) fp) tg us g wg)
    (ht : ∀ (s : Shared) (H : Hp) (C : Addr) (cl : List (Str × Addr)) (fp : List Addr), DTs (X.blk s H scope (compEnvC scope cl C X.env) fp) E0 ifs tt wt)
    (he : ∀ (s : Shared) (H : Hp) (C : Addr) (cl : List (Str × Addr)) (fp : List Addr), DE (X.blk s H scope (compEnvC scope cl C X.env) fp) E0 elt te we)
    (hs : ∀ x, foldedSetIterable iter X.env x = pure x := by intro _; rfl) (na : starEach [.SetComp elt [⟨tg, iter, ifs, 0⟩] scope spos] X.env = (false, eval (.SetComp elt [⟨tg, iter, ifs, 0⟩] scope spos) X.env) :: starEach [] X.env := by rfl) :
    DE X E (.Call (.Name "len" p) [.SetComp elt [⟨tg, iter, ifs, 0⟩] scope spos] [] pos) (tLenSc X.w wi g tt te (own.map (·.2))) (wLenSc w wg wt we (own.map (·.2))) :=
  ⟨pe_callB cr_lenSet hgl hml (by rfl) (pa_cons (pe_scI hc hN hi.pi ok (fun s H C cl fp => (hg s H C cl fp).pg) (fun s H C cl fp => (ht s H C cl fp).pt) (fun s H C cl fp => (he s H C cl fp).pe) hs) pa_nil na) (he := na),
    snd_lenSc hi.so hu (hg X.s_0 X.H_0 0 [] []).so (ht X.s_0 X.H_0 0 [] []).so (he X.s_0 X.H_0 0 [] []).so⟩
end
end DL
namespace DL
open PySem PySem.Spec PyProof.Rows L2
def distinct (ns : List Int) : Nat := (ns.foldl step_dedup []).length
theorem firstMet_all (ns : List Int) : firstMet (fun i => ns.getD i 0) ns.length = ns.foldl step_dedup [] := by
  unfold firstMet
  congr 1
  refine List.ext_getElem (by simp) fun i h1 h2 => ?_
  simp [List.getElem?_eq_getElem h2]
theorem distinct_le (ns : List Int) : distinct ns ≤ ns.length := by
  unfold distinct
  rw [← firstMet_all]
  exact firstMet_length_le _ _
theorem dedup_mem (acc : List Int) (k j : Int) : j ∈ step_dedup acc k ↔ j ∈ acc ∨ j = k := by
  have h := dedup_any acc k j
  have a : ∀ l : List Int, (l.any (· == j) = true ↔ j ∈ l) := fun l => by
    rw [List.any_eq_true]
    exact ⟨fun ⟨x, hx, e⟩ => by rw [← eq_of_beq e]; exact hx, fun hj => ⟨j, hj, beq_self_eq_true j⟩⟩
  rw [← a, h, Bool.or_eq_true, a, decide_eq_true_eq]
theorem dedup_nodup (acc : List Int) (k : Int) (h : acc.Nodup) : (step_dedup acc k).Nodup := by
  unfold step_dedup
  cases e : acc.any (· == k) with
  | true => simpa using h
  | false =>
    simp only [Bool.false_eq_true, if_false]
    refine List.nodup_append.mpr ⟨h, by simp, fun x hx y hy => ?_⟩
    simp at hy
    subst hy
    intro z
    subst z
    have : acc.any (· == x) = true := List.any_eq_true.mpr ⟨x, hx, beq_self_eq_true x⟩
    rw [e] at this; cases this
theorem fold_mem (ns : List Int) : ∀ acc : List Int, ∀ j, j ∈ ns.foldl step_dedup acc ↔ j ∈ acc ∨ j ∈ ns := by
  induction ns with
  | nil => intro acc j; simp
  | cons n ns ih =>
    intro acc j
    rw [List.foldl_cons, ih, dedup_mem, List.mem_cons, or_assoc]
theorem fold_nodup (ns : List Int) : ∀ acc : List Int, acc.Nodup → (ns.foldl step_dedup acc).Nodup := by
  induction ns with
  | nil => intro acc h; exact h
  | cons n ns ih => intro acc h; exact ih _ (dedup_nodup acc n h)
theorem distinct_of {ns ks : List Int} (hn : ks.Nodup) (hm : ∀ j, j ∈ ks ↔ j ∈ ns) : ks.length = distinct ns := by
  refine List.Perm.length_eq ((List.perm_ext_iff_of_nodup hn (fold_nodup ns [] List.nodup_nil)).mpr fun j => ?_)
  rw [hm, fold_mem]
  simp
section
variable {X : Cx} {E : XK} {e : Expr} {te : TE} {we : WE} {p p2 q pos : Pos}
def tLenSetD (K : PySem.W.Frag) (te : TE) : TE := fun σ H Q => te σ H fun x H1 => ∃ (l : Addr) (ns : List Int), x = .ref l ∧ (SqL K H1 l (ns.map V.int) ∨ SqT K H1 l (ns.map V.int)) ∧ ns.length ≤ 4000 ∧ Q (.int (distinct ns : Nat)) H1
theorem pe_lenSetD (hc : X.calm = true) (hg : Gl X "len") (hm : X.mg "len" = none) (hg2 : Gl X "set") (hm2 : X.mg "set" = none) (he : PE X e te) (na : starEach [e] X.env = (false, eval e X.env) :: starEach [] X.env := by rfl) :
    PE X (.Call (.Name "len" p) [.Call (.Name "set" p2) [e] [] q] [] pos) (tLenSetD X.K te) := by
  refine ⟨fun pins s σ H Q I h => Call_ (ld_blt I hg hm boot_len ?_)⟩
  refine callWith_builtin1 (args_cons (Call_ (ld_blt I hg2 hm2 boot_set ?_)) rfl) rfl rfl
  refine callWith_type1 (args_cons (thn (he.run pins s σ H _ I h) fun v s1 ⟨x, H1, I1, r1, l, ns, ex, hq, hl, q1⟩ => args_nil ?_) na) na rfl
  subst ex
  cases r1
  have room : ∀ n, n = ns.length → n + 1 < scanBound := fun n e => by rw [e]; unfold scanBound; omega
  rcases hq with hq | hq
  · obtain ⟨its, r, pl, hz⟩ := I1.list hq
    have hlen : its.toArray.size = ns.length := by rw [List.size_toArray, ← r.length, List.length_map]
    refine call_set_list (I1.ok.hd hc) pl.isList (by simpa using RZ.intsAre_vals r) (room _ hlen) fun h' tk hS hk => args_nil ?_
    rw [hlen, firstMet_all] at hS
    obtain ⟨o, es, ep, t, ho, hex, hd, _, _, _, hf, hn⟩ := hS
    have I2 : Inv X pins σ H1 { s1 with heap := h', toks := tk } := I1.kept fun b o e => hk b o (Heap.lt_size e) e
    have hd' := distinct_le ns
    have hn' : es.size = distinct ns := hn
    exact call_len_set ho hex hd hf (by omega) ⟨.int (distinct ns : Nat), H1, I2.tok _, ⟨_, by rw [hn']⟩, q1⟩
  · obtain ⟨its, r, pl, hz⟩ := I1.tuple hq
    refine call_set_tupI ns (I1.ok.hd hc) pl (by simpa using RZ.intsAre_vals r) (room _ rfl) fun h' tk c hS hc hk => args_nil ?_
    obtain ⟨o, es, ep, t, ho, hex, hd, _, hnd, hmem, _, hf, hn, _⟩ := hS
    have hn' : es.size = distinct ns := by
      have z := distinct_of (ns := ns) hnd fun j => by rw [← hmem]; exact decide_eq_true_iff
      rw [List.length_map, Array.length_toList] at z
      exact z
    have hd' := distinct_le ns
    have I2 : Inv X pins σ H1 { s1 with heap := h', toks := tk } := I1.kept hk
    exact call_len_set ho hex hd hf (by omega) ⟨.int (distinct ns : Nat), H1, I2.tok _, ⟨_, by rw [hn']⟩, q1⟩
def intsD : List D → Option (List Int)
  | [] => some []
  | .int i :: ds => (intsD ds).map (i :: ·)
  | _ => none
theorem intsD_eq : ∀ {ds : List D} {ns : List Int}, intsD ds = some ns → ds = ns.map PyData.int
  | [], ns, e => by cases e; rfl
  | .int i :: ds, ns, e => by
    unfold intsD at e
    cases h : intsD ds with
    | none => rw [h] at e; cases e
    | some ms => rw [h] at e; cases e; rw [intsD_eq h]; rfl
  | .none :: _, _, e => by cases e
  | .bool _ :: _, _, e => by cases e
  | .str _ :: _, _, e => by cases e
  | .list _ :: _, _, e => by cases e
  | .tuple _ :: _, _, e => by cases e
  | .dict _ :: _, _, e => by cases e
def wLenSet (we : WE) : WE := fun a K B => we a (fun r a1 => ∃ d ds ns, vw a1 r = some d ∧ itemsD d = some ds ∧ intsD ds = some ns ∧ ns.length ≤ 4000 ∧ K (.d (.int (distinct ns : Nat))) a1) B
theorem de_lenSet (hc : X.calm = true) (hg : Gl X "len") (hm : X.mg "len" = none) (hg2 : Gl X "set") (hm2 : X.mg "set" = none) (he : DE X E e te we) (na : starEach [e] X.env = (false, eval e X.env) :: starEach [] X.env := by rfl) :
    DE X E (.Call (.Name "len" p) [.Call (.Name "set" p2) [e] [] q] [] pos) (tLenSetD X.K te) (wLenSet we) := ⟨pe_lenSetD hc hg hm hg2 hm2 he.pe na, by
  intro a K B k σ F H fps x Q q b
  refine he.so a _ B k σ F H fps x _ (fun r a1 v F1 H1 ⟨d, ds, ns, e1, e2, e3, hl, k1⟩ n1 x1 l1 o1 w1 => ?_) b
  obtain ⟨l, vs, rfl, hp, rp⟩ := vw_items x1 o1 e1 e2
  have ev : vs = ns.map V.int := by
    rw [intsD_eq e3] at rp
    exact RepAll.of_ints rp
  subst ev
  exact ⟨l, ns, rfl, hp.elim (fun z => .inl (SqL.of z)) fun z => .inr (SqT.of z), hl, q _ a1 _ F1 H1 k1 n1 x1 l1 (.int _) trivial⟩⟩
end
end DL
namespace DL
open PySem PySem.Spec PyProof.Rows L2
theorem meets_enum1 {v : Value} {o : Obj} {C : Heap → Prop} (B : Begins v o C) :
    Meets (Builtin.«enumerate.__new__» ⟨[.type "enumerate", v], []⟩) (fun _ R s => C s.heap ∧
      R (.ok (.ret (.ref (s.heap.push o).objs.size))) { s with heap := (s.heap.push o).push { cls := .type "enumerate", data := .fields #[.none, .bool false, .ref s.heap.objs.size, rawInt 0, .none, .none] } }) :=
  .of_wp fun prog w A R s h => by
    obtain ⟨hp, g, d, tk, os⟩ := s
    obtain ⟨hc, h⟩ := h
    have hsub := sub_enumerate
    have step : ∀ {A' : Around} {E Q : Value → Shared → Prop}, Q (.ref hp.objs.size) ⟨hp.push o, g, d, tk, os⟩ → wpAny (model prog w) A' (pyIter v) Q E ⟨hp, g, d, tk, os⟩ := fun q => B.iter prog w _ _ _ _ hc q
    wp_walk using step
    refine wpAny_stack_any fun st => wpAny_pure ?_
    split
    · rename_i c _ _ _ _ _
      cases (c == Value.type "enumerate") <;> (wp_walk using step; exact ⟨_, rfl, h⟩)
    · wp_walk using step
      exact ⟨_, rfl, h⟩
theorem call_enum1 {prog : Program} {w : World} {A : Around} {E : Value → Shared → Prop} {s : Shared} {v : Value} {o : Obj} {C : Heap → Prop} {Q : Value → Shared → Prop} (B : Begins v o C) (hc : C s.heap)
    (h : ∀ h', IsEnum h' (s.heap.objs.size + 1) s.heap.objs.size 0 .none → h'.get? s.heap.objs.size = some o → (∀ b u, s.heap.get? b = some u → h'.get? b = some u) → Q (.ref (s.heap.objs.size + 1)) { s with heap := h' }) :
    wpAny (model prog w) A (call (.type "enumerate") [v]) Q E s := by
  refine callType_new F.called_enumerate (by decide) (F.typeCall_enumerate_1 _) (F.newCall_enumerate_1 _) (fun obj => F.args_object_init_2 obj _) F.entry_enumerate_new (meets_enum1 B) ⟨hc, ?_⟩
  have hz : (s.heap.push o).objs.size = s.heap.objs.size + 1 := Heap.size_push ..
  show _ ∧ _
  rw [hz]
  have he : IsEnum ((s.heap.push o).push { cls := .type "enumerate", data := .fields #[.none, .bool false, .ref s.heap.objs.size, rawInt 0, .none, .none] }) (s.heap.objs.size + 1) s.heap.objs.size 0 .none := by
    have z := Heap.get?_push_size (s.heap.push o) (o := { cls := .type "enumerate", data := .fields #[.none, .bool false, .ref s.heap.objs.size, rawInt 0, .none, .none] }) rfl
    rw [hz] at z
    exact z
  exact ⟨⟨_, he, rfl⟩, h _ he (Heap.get?_push_of_some _ (Heap.get?_push_size _ B.free)) fun b u x => Heap.get?_push_of_some _ (Heap.get?_push_of_some _ x)⟩
def IteT (K : PySem.W.Frag) (a : Addr) : It :=
  ⟨fun i H => ∃ xs x, SqT K H a xs ∧ xs[i]? = some x, fun i H v H' => ∃ T x, v = .ref T ∧ H T = none ∧ H' = upd H T (.tup [.int (i : Nat), x]) ∧ ∀ xs, SqT K H a xs → xs[i]? = some x, fun i H => ∃ xs, SqT K H a xs ∧ xs.length ≤ i⟩
theorem turn_enumT {P : Program} {w : World} {K : PySem.W.Frag} {elts : List Expr} {kk : Nat} {tpos : Pos} (a e it : Addr) (n1 : e ≠ it) (n2 : a ≠ it) (n3 : e ≠ a) :
    Turn P w K (.Tuple elts kk tpos) (IteT K a) [e, it] e (fun i h => (∃ old, IsEnum h e it (i : Nat) old) ∧ h.IsTupleIter it a i) where
  mem := by simp
  obj := fun i h st b hb => by
    obtain ⟨⟨old, he⟩, o, ho, hc, hd⟩ := st
    rcases (by simpa using hb : b = e ∨ b = it) with z | z
    · rw [z]; exact ⟨_, he, fun v q => nomatch q⟩
    · rw [z]; exact ⟨o, ho, fun v q => by rw [hd] at q; cases q⟩
  keep := fun i h h' st k => ⟨st.1.elim fun old he => ⟨old, k e (by simp) _ he⟩, st.2.at fun o q => k it (by simp) o q⟩
  item := by
    intro X hP hw hK hc i pins s σ H E I hf st hg
    subst hP hw hK
    obtain ⟨xs, x, hq, hx⟩ := hg
    obtain ⟨its, rv, p, hz⟩ := I.tuple hq
    obtain ⟨u, hu, ru⟩ := rv.get hx
    have D : Draws X.prog X.w X.A.in1 it [it, a] its.toArray.size (fun i v => its.toArray[i]? = some v) (fun i h => h.IsTupleIter it a i ∧ h.IsTuple a its.toArray) := Draws.tuple (A := X.A.in1) (I.ok.hd hc) it a n2 its.toArray
    have W := WalksT.enumerateD D e n1 (by simp [n1, n3]) (by simp)
    have hi : i < its.toArray.size := by
      have := (List.getElem?_eq_some_iff.mp hu).1
      simpa using this
    refine W.item i s _ _ hi ⟨st.1, st.2, p⟩ fun T vals h' tk hP hsz hT hM hk => ⟨_, rfl, W.go elts kk tpos i T _ _ _ hM fun h'' st'' hk'' => ?_⟩
    obtain ⟨t, y, hy, ev⟩ := hP
    have ey : y = u := by
      have z : its[i]? = some y := by simpa using hy
      rw [hu] at z; cases z; rfl
    subst ey ev
    have hT2 : h''.IsTuple T #[.int i t, y] := hT.at fun o z => hk'' T o (W.apart i T _ hM) z
    have new : ObjOk X.prog X.w (upd H T (.tup [.int (i : Nat), x])) h'' T (.tup [.int (i : Nat), x]) := ⟨by show 2 ≤ sizeLine; decide, [.int i t, y], .cons ⟨_, rfl⟩ (.cons ru .nil), hT2⟩
    have I1 : Inv X pins σ (upd H T (.tup [.int (i : Nat), x])) { s with heap := h'', toks := tk } :=
      I.turnedNew (ch := [e, it]) (fun b ob hb q => hk'' b ob hb (hk b ob hb q)) hf hsz new
    refine ⟨.ref T, _, I1, rfl, ⟨T, x, rfl, I.hok.fresh hsz, rfl, fun ys hy => ?_⟩, ⟨st''.1, st''.2.1⟩, fun b hb => ?_⟩
    · rw [I.tuple_inj hy hq]; exact hx
    · have hb' : b < s.heap.objs.size := by
        obtain ⟨⟨old, he⟩, o, ho, _⟩ := st
        rcases (by simpa using hb : b = e ∨ b = it) with z | z
        · rw [z]; exact Heap.lt_size he
        · rw [z]; exact Heap.lt_size ho
      rw [upd_ne (Nat.ne_of_lt (Nat.lt_of_lt_of_le hb' hsz))]
      exact (hf b hb).1
  done := by
    intro X hP hw hK hc i pins s σ H E I hf st hg
    subst hP hw hK
    obtain ⟨xs, hq, hx⟩ := hg
    obtain ⟨its, rv, p, hz⟩ := I.tuple hq
    have hl := rv.length
    have D : Draws X.prog X.w X.A.in1 it [it, a] i (fun _ _ => True) (fun j h => j = i ∧ h.IsTupleIter it a j ∧ h.IsTuple a its.toArray) :=
      { live := fun _ _ st => st.2.1.elim fun o z => ⟨o, z.1⟩
        frame := fun _ _ _ st hk => ⟨st.1, st.2.1.at fun o e => hk it (by simp) o e, st.2.2.at fun o e => hk a (by simp) o e⟩
        item := fun j s Q E hj st hQ => absurd (show j = i from st.1) (Nat.ne_of_lt hj)
        done := fun s Q E st hE => wpAny_nextOf_tuple_end (A := X.A.in1) (I.ok.hd hc) st.2.1 st.2.2 (by simp; omega) hE }
    have W := WalksT.enumerateD D e n1 (by simp [n1, n3]) (by simp)
    exact W.done s _ _ ⟨st.1, rfl, st.2, p⟩ fun h' tk hk => ⟨rfl, I.turnedL (ch := [e, it]) (fun b o hb q => hk b o hb q) hf⟩
  self := fun A i s Q E st h => st.1.elim fun _ he => wpAny_pyIter_enum he h
def iEnumD (K : PySem.W.Frag) (te : TE) : TI := fun σ H R => te σ H fun x H1 => ∃ a xs, x = .ref a ∧ ((SqL K H1 a xs ∧ R (Ite K a) H1) ∨ (SqT K H1 a xs ∧ R (IteT K a) H1))
theorem pi_enumD {X : Cx} {e : Expr} {te : TE} {p pos tpos : Pos} {elts : List Expr} {kk : Nat} (hg : Gl X "enumerate") (hm : X.mg "enumerate" = none) (he : PE X e te) (hs : starEach [e] X.env = (false, eval e X.env) :: starEach [] X.env := by rfl) :
    PI X (.Tuple elts kk tpos) (.Call (.Name "enumerate" p) [e] [] pos) (iEnumD X.K te) := by
  refine ⟨fun pins s σ H R I h => Call_ (ld_blt I hg hm boot_enumerate (callWith_type1 (args_cons (thn (he.run pins s σ H _ I h) fun v s1 ⟨x, H1, I1, r1, a, xs, ex, q⟩ => args_nil ?_) hs) hs rfl))⟩
  subst ex
  cases r1
  have fresh : ∀ b, b ∈ [s1.heap.objs.size + 1, s1.heap.objs.size] → FpOk X pins H1 b := fun b hb => by
    have hle : s1.heap.objs.size ≤ b := by
      rcases (by simpa using hb : b = s1.heap.objs.size + 1 ∨ b = s1.heap.objs.size) with z | z <;> omega
    exact I1.fpOk hle (I1.hok.fresh hle)
  rcases q with ⟨hq, q⟩ | ⟨hq, q⟩
  · obtain ⟨its, rv, p', hz⟩ := I1.list hq
    refine call_enumerate_list p'.isList fun h' he hit hsz hk => wpAny_pyIter_enum he ?_
    exact ⟨s1.heap.objs.size + 1, _, _, _, H1, rfl, I1.kept (t' := s1.toks) hk, turn_enum a _ _, ⟨⟨.none, he⟩, hit, Nat.succ_ne_self _⟩, fresh, q⟩
  · obtain ⟨its, rv, p', hz⟩ := I1.tuple hq
    have hlt : a < s1.heap.objs.size := by obtain ⟨o, ho, _⟩ := p'; exact Heap.lt_size ho
    refine call_enum1 (begins_tuple a its.toArray) p' fun h' he hit hk => wpAny_pyIter_enum he ?_
    exact ⟨s1.heap.objs.size + 1, _, _, _, H1, rfl, I1.kept (t' := s1.toks) hk, turn_enumT a _ _ (Nat.succ_ne_self _) (Nat.ne_of_lt hlt) (Nat.ne_of_gt (Nat.lt_succ_of_lt hlt)), ⟨⟨.none, he⟩, ⟨_, hit, rfl, rfl⟩⟩, fresh, q⟩
def enumD (ds : List D) : List D := (List.range ds.length).zipWith (fun (i : Nat) d => PyData.tuple [.int i, d]) ds
theorem enumD_len (ds : List D) : (enumD ds).length = ds.length := by unfold enumD; simp
theorem enumD_get {ds : List D} {i : Nat} {d : D} (h : (enumD ds)[i]? = some d) : ∃ x, ds[i]? = some x ∧ d = .tuple [.int (i : Nat), x] := by
  unfold enumD at h
  rw [List.getElem?_zipWith] at h
  cases e : ds[i]? with
  | none =>
    rw [e] at h
    cases e2 : (List.range ds.length)[i]? with
    | none => rw [e2] at h; cases h
    | some j => rw [e2] at h; cases h
  | some x =>
    have hi : i < ds.length := (List.getElem?_eq_some_iff.mp e).1
    rw [e, List.getElem?_range hi] at h
    cases h
    exact ⟨x, rfl, rfl⟩
theorem src_enumL {K : PySem.W.Frag} {F : Hp} {p : Addr} {vs : List V} {xs : List D} (h : F p = some (.lst vs)) (r : RepAll F vs xs) : SrcOk (Ite K p) F (enumD xs) where
  go := fun i H s hi => by
    rw [enumD_len] at hi
    have hl := r.length
    exact ⟨vs, vs[i]'(by omega), SqL.of (s _ _ h), by simp⟩
  stop := fun i H s hi => by
    rw [enumD_len] at hi
    exact ⟨vs, SqL.of (s _ _ h), by rw [r.length]; exact hi⟩
  yld := fun i H v H' F1 s1 s2 y d hd => by
    obtain ⟨T, x, rfl, hT, rfl, y⟩ := y
    obtain ⟨x', e1, rfl⟩ := enumD_get hd
    have e2 := y vs (SqL.of (s2 _ _ (s1 _ _ h)))
    obtain ⟨d', e3, r2⟩ := r.get e2
    rw [e1] at e3; cases e3
    exact .inr ⟨T, _, hT, rfl, .tup upd_same (.cons (.int _) (.cons ((r2.mono s1).mono (Sub.put (s2.gone hT))) .nil))⟩
theorem src_enumT {K : PySem.W.Frag} {F : Hp} {p : Addr} {vs : List V} {xs : List D} (h : F p = some (.tup vs)) (r : RepAll F vs xs) : SrcOk (IteT K p) F (enumD xs) where
  go := fun i H s hi => by
    rw [enumD_len] at hi
    have hl := r.length
    exact ⟨vs, vs[i]'(by omega), SqT.of (s _ _ h), by simp⟩
  stop := fun i H s hi => by
    rw [enumD_len] at hi
    exact ⟨vs, SqT.of (s _ _ h), by rw [r.length]; exact hi⟩
  yld := fun i H v H' F1 s1 s2 y d hd => by
    obtain ⟨T, x, rfl, hT, rfl, y⟩ := y
    obtain ⟨x', e1, rfl⟩ := enumD_get hd
    have e2 := y vs (SqT.of (s2 _ _ (s1 _ _ h)))
    obtain ⟨d', e3, r2⟩ := r.get e2
    rw [e1] at e3; cases e3
    exact .inr ⟨T, _, hT, rfl, .tup upd_same (.cons (.int _) (.cons ((r2.mono s1).mono (Sub.put (s2.gone hT))) .nil))⟩
def wiEnum (we : WE) : WI := fun a K B => we a (fun r a1 => ∃ d ds, frz r = some d ∧ itemsD d = some ds ∧ K (enumD ds) a1) B
theorem di_enum {X : Cx} {E : XK} {e : Expr} {te : TE} {we : WE} {p pos tpos : Pos} {elts : List Expr} {kk : Nat} (hg : Gl X "enumerate") (hm : X.mg "enumerate" = none) (he : DE X E e te we) (hs : starEach [e] X.env = (false, eval e X.env) :: starEach [] X.env := by rfl) :
    DI X E (.Tuple elts kk tpos) (.Call (.Name "enumerate" p) [e] [] pos) (iEnumD X.K te) (wiEnum we) := ⟨pi_enumD hg hm he.pe hs, by
  intro a K B k σ F H fps x R q b
  refine he.so a _ B k σ F H fps x _ (fun r a1 v F1 H1 ⟨d, ds, e1, e2, k1⟩ n1 x1 l1 o1 w1 => ?_) b
  obtain ⟨F2, f, rp⟩ := freeze_one (H0 := H) x1 o1.w w1 e1
  cases d with
  | list ys =>
    cases e2
    cases rp with
    | lst hp rr => exact ⟨_, _, rfl, .inl ⟨SqL.of (f.ok.sub _ _ hp), q _ a1 F2 H1 _ k1 n1 f.ok (f.le l1) (src_enumL hp rr)⟩⟩
  | tuple ys =>
    cases e2
    cases rp with
    | tup hp rr => exact ⟨_, _, rfl, .inr ⟨SqT.of (f.ok.sub _ _ hp), q _ a1 F2 H1 _ k1 n1 f.ok (f.le l1) (src_enumT hp rr)⟩⟩
  | _ => cases e2⟩
end DL
namespace DL
open PySem PySem.Spec PyProof.Rows L2
theorem zip_len0 : typeLookup (.type "zip") "__len__" = pure none := am_miss_of_fast (by decide +kernel)
theorem zip_hint0 : typeLookup (.type "zip") "__length_hint__" = pure none := am_miss_of_fast (by decide +kernel)
theorem upd_swap {H : Hp} {a b : Addr} {o u : HO} (h : a ≠ b) : upd (upd H a o) b u = upd (upd H b u) a o := by
  funext c
  by_cases ha : c = a
  · subst ha; rw [upd_ne h, upd_same, upd_same]
  · by_cases hb : c = b
    · subst hb; rw [upd_same, upd_ne ha, upd_same]
    · rw [upd_ne hb, upd_ne ha, upd_ne ha, upd_ne hb]
theorem upd_twice {H : Hp} {a : Addr} {o u : HO} : upd (upd H a o) a u = upd H a u := by
  funext c
  by_cases ha : c = a
  · subst ha; rw [upd_same, upd_same]
  · rw [upd_ne ha, upd_ne ha, upd_ne ha]
def ZS (H : Hp) (h : Heap) (z TI TO i1 i2 l1 l2 : Addr) (k : Nat) : Prop :=
  PySem.IsPair h TI (.ref i1) (.ref i2) ∧ h.IsListIter i1 l1 k ∧ h.IsListIter i2 l2 k ∧
    ((IsZip h z TI TO .none ∧ ∃ a b, PySem.IsPair h TO a b) ∨ ∃ T f us, IsZipHeld h z TI TO T f ∧ H T = some (.tup us))
section
variable {X : Cx} {pins : List (Addr × Obj)} {σ : Sgm} {z TI TO i1 i2 l1 l2 : Addr}
theorem zip_next {s : Shared} {H : Hp} {k : Nat} {its1 its2 : List Value} {u1 u2 : Value} {E : Value → Shared → Prop} {Q : Option Value → Shared → Prop} (D : ZipApart z TI TO i1 i2 l1 l2) (I : Inv X pins σ H s)
    (fp : ∀ c ∈ [z, TI, TO, i1, i2], H c = none) (st : ZS H s.heap z TI TO i1 i2 l1 l2 k) (p1 : s.heap.IsList l1 its1.toArray) (p2 : s.heap.IsList l2 its2.toArray) (h1 : its1[k]? = some u1) (h2 : its2[k]? = some u2) {A : Around}
    (q : ∀ h', (∀ H', H' s.heap.objs.size = some (.tup []) ∨ (∃ us, H' s.heap.objs.size = some (.tup us)) → (∀ b us, H b = some (.tup us) → H' b = some (.tup us)) → ZS H' h' z TI TO i1 i2 l1 l2 (k + 1)) →
      PySem.IsPair h' s.heap.objs.size u1 u2 → (∀ c o, c ∉ [z, TI, TO, i1, i2] → s.heap.get? c = some o → h'.get? c = some o) → Q (some (.ref s.heap.objs.size)) { s with heap := h' }) :
    wpAny (model X.prog X.w) A (pyNext (.ref z)) Q E s := by
  obtain ⟨hTI, hi1, hi2, hz⟩ := st
  have e1 : its1.toArray[k]? = some u1 := by simpa using h1
  have e2 : its2.toArray[k]? = some u2 := by simpa using h2
  rcases hz with ⟨hz, a, b, hTO⟩ | ⟨T, f, us, hz, hT⟩
  · refine wpAny_pyNext_zip_item D hz hTI hTO hi1 hi2 p1 p2 e1 e2 fun h' z' TO' j1 j2 hN hsz hk => ?_
    refine q h' (fun H' hn hm => ⟨?_, j1, j2, .inr ⟨s.heap.objs.size, false, ?_⟩⟩) hN fun c o hc x => hk c o (fun e => hc (by simp [e])) (fun e => hc (by simp [e])) (fun e => hc (by simp [e])) (fun e => hc (by simp [e])) x
    · exact hk _ _ D.TIz D.TITO D.TIi1 D.TIi2 hTI
    · rcases hn with hn | ⟨us, hn⟩
      · exact ⟨[], z', hn⟩
      · exact ⟨us, z', hn⟩
  · obtain ⟨_, its, rv, o, ho, hc⟩ := I.hok T _ hT
    refine wpAny_pyNext_zip_item_held D hz ho hTI hi1 hi2 p1 p2 e1 e2 fun h' z' j1 j2 hN hsz hk => ?_
    refine q h' (fun H' hn hm => ⟨?_, j1, j2, .inr ⟨T, true, us, z', hm T _ hT⟩⟩) hN fun c o hc x => hk c o (fun e => hc (by simp [e])) (fun e => hc (by simp [e])) (fun e => hc (by simp [e])) x
    exact hk _ _ D.TIz D.TIi1 D.TIi2 hTI
theorem zip_end {s : Shared} {H : Hp} {k : Nat} {its1 its2 : List Value} {E : Value → Shared → Prop} {Q : Option Value → Shared → Prop} (D : ZipApart z TI TO i1 i2 l1 l2) (I : Inv X pins σ H s)
    (st : ZS H s.heap z TI TO i1 i2 l1 l2 k) (p1 : s.heap.IsList l1 its1.toArray) (p2 : s.heap.IsList l2 its2.toArray) (h1 : its1.length ≤ k ∨ its2.length ≤ k) {A : Around} (hh : A.handled = none)
    (q : ∀ h', (∀ c o, c ∉ [z, TI, TO, i1, i2] → s.heap.get? c = some o → h'.get? c = some o) → Q none { s with heap := h' }) :
    wpAny (model X.prog X.w) A (pyNext (.ref z)) Q E s := by
  obtain ⟨hTI, hi1, hi2, hz⟩ := st
  have he : its1.toArray[k]? = none ∨ its2.toArray[k]? = none := h1.imp (fun e => by simpa using e) fun e => by simpa using e
  rcases hz with ⟨hz, a, b, hTO⟩ | ⟨T, f, us, hz, hT⟩
  · exact wpAny_pyNext_zip_end hh D hz hTI hTO hi1 hi2 p1 p2 he fun h' hk => q h' fun c o hc x => hk c o (fun e => hc (by simp [e])) (fun e => hc (by simp [e])) (fun e => hc (by simp [e])) (fun e => hc (by simp [e])) x
  · obtain ⟨_, its, rv, o, ho, hc⟩ := I.hok T _ hT
    exact wpAny_pyNext_zip_end_held hh D hz ho hTI hi1 hi2 p1 p2 he fun h' hk => q h' fun c o hc x => hk c o (fun e => hc (by simp [e])) (fun e => hc (by simp [e])) (fun e => hc (by simp [e])) x
end
theorem ZS.at {H : Hp} {h h' : Heap} {z TI TO i1 i2 l1 l2 : Addr} {k : Nat} (st : ZS H h z TI TO i1 i2 l1 l2 k) (hk : ∀ c ∈ [z, TI, TO, i1, i2], ∀ o, h.get? c = some o → h'.get? c = some o) : ZS H h' z TI TO i1 i2 l1 l2 k := by
  obtain ⟨a, b, c, d⟩ := st
  refine ⟨hk _ (by simp) _ a, b.at fun o q => hk _ (by simp) o q, c.at fun o q => hk _ (by simp) o q, ?_⟩
  rcases d with ⟨d, x, y, e⟩ | ⟨T, f, us, d, e⟩
  · exact .inl ⟨hk _ (by simp) _ d, x, y, hk _ (by simp) _ e⟩
  · exact .inr ⟨T, f, us, hk _ (by simp) _ d, e⟩
section
variable {X : Cx} {pins : List (Addr × Obj)} {σ : Sgm} {z TI TO i1 i2 l1 l2 S : Addr} {xs ys : List V} {res : Value} {R : Result → Shared → Prop} {G : Nat → List V → Hp → Prop}
theorem zip_loop {A : Around} (hA : A.handled = none) (D : ZipApart z TI TO i1 i2 l1 l2) (hS : S ∉ [z, TI, TO, i1, i2]) (hlen : xs.length ≤ 100000)
    (hG : ∀ i x y vs H, G i vs H → xs[i]? = some x → ys[i]? = some y → ∀ T, H T = none → G (i + 1) (vs ++ [.ref T]) (upd H T (.tup [x, y])))
    (out : ∀ s' H' vs', Inv X pins σ (upd H' S (.lst vs')) s' → H' S = none → G (min xs.length ys.length) vs' H' → R (.ok (.ret res)) s') :
    ∀ (k i : Nat) (s : Shared) (H : Hp) (vs : List V), min xs.length ys.length - i = k → i ≤ min xs.length ys.length → Inv X pins σ (upd H S (.lst vs)) s → H S = none → vs.length = i →
      H l1 = some (.lst xs) → H l2 = some (.lst ys) → (∀ c ∈ [z, TI, TO, i1, i2], FpOk X pins (upd H S (.lst vs)) c) → (∀ c ∈ [z, TI, TO, i1, i2], c < s.heap.objs.size) → ZS (upd H S (.lst vs)) s.heap z TI TO i1 i2 l1 l2 i → G i vs H →
      codeAny (model X.prog X.w) A (.builtin "list.extend.loop" ⟨[.ref S, .ref z, res], []⟩) R s := by
  intro k
  induction k with
  | zero =>
    intro i s H vs hk hi I hSn hv h1 h2 fp lt st g
    have e1 : l1 ≠ S := fun e => by rw [e, hSn] at h1; cases h1
    have e2 : l2 ≠ S := fun e => by rw [e, hSn] at h2; cases h2
    obtain ⟨_, its1, n1, r1, hl1, p1⟩ := I.lstM (show (upd H S (.lst vs)) l1 = some (.lst xs) by rw [upd_ne e1]; exact h1)
    obtain ⟨_, its2, n2, r2, hl2, p2⟩ := I.lstM (show (upd H S (.lst vs)) l2 = some (.lst ys) by rw [upd_ne e2]; exact h2)
    have hin : i = min xs.length ys.length := by omega
    refine codeAny_builtin F.entry_extend_loop ?_
    rw [Around.under_plainId F.plain_extend_loop _]
    show wpAny _ A.in1 (pyNext (.ref z) >>= _) _ _ s
    refine wpAny_bind (zip_end D I st ⟨_, p1, rfl, _, rfl⟩ ⟨_, p2, rfl, _, rfl⟩ (by omega) (A := A.in1) hA fun h' hk' => wpAny_pure ?_)
    exact out _ H vs (I.turnedL (t' := s.toks) (ch := [z, TI, TO, i1, i2]) (fun c o hb q => hk' c o hb q) fp) hSn (hin ▸ g)
  | succ k ih =>
    intro i s H vs hk hi I hSn hv h1 h2 fp lt st g
    have e1 : l1 ≠ S := fun e => by rw [e, hSn] at h1; cases h1
    have e2 : l2 ≠ S := fun e => by rw [e, hSn] at h2; cases h2
    obtain ⟨_, its1, n1, r1, hl1, p1⟩ := I.lstM (show (upd H S (.lst vs)) l1 = some (.lst xs) by rw [upd_ne e1]; exact h1)
    obtain ⟨_, its2, n2, r2, hl2, p2⟩ := I.lstM (show (upd H S (.lst vs)) l2 = some (.lst ys) by rw [upd_ne e2]; exact h2)
    have hx : xs[i]? = some (xs[i]'(by omega)) := List.getElem?_eq_getElem (by omega)
    have hy : ys[i]? = some (ys[i]'(by omega)) := List.getElem?_eq_getElem (by omega)
    obtain ⟨u1, f1, v1⟩ := r1.get hx
    obtain ⟨u2, f2, v2⟩ := r2.get hy
    have hTn : (upd H S (.lst vs)) s.heap.objs.size = none := I.hok.fresh (Nat.le_refl _)
    have hTS : s.heap.objs.size ≠ S := fun e => by rw [e, upd_same] at hTn; cases hTn
    have hTH : H s.heap.objs.size = none := by rw [upd_ne hTS] at hTn; exact hTn
    refine codeAny_builtin F.entry_extend_loop ?_
    rw [Around.under_plainId F.plain_extend_loop _]
    show wpAny _ A.in1 (pyNext (.ref z) >>= _) _ _ s
    refine wpAny_bind (zip_next D I (fun c hb => (fp c hb).1) st ⟨_, p1, rfl, _, rfl⟩ ⟨_, p2, rfl, _, rfl⟩ f1 f2 (A := A.in1) fun h' zs hN hk' => ?_)
    have I1 : Inv X pins σ (upd (upd H S (.lst vs)) s.heap.objs.size (.tup [xs[i]'(by omega), ys[i]'(by omega)])) { s with heap := h' } :=
      I.turnedNew (t' := s.toks) (ch := [z, TI, TO, i1, i2]) (fun c o hb q => hk' c o hb q) fp (Nat.le_refl _) ⟨by show 2 ≤ sizeLine; decide, [u1, u2], .cons v1 (.cons v2 .nil), ⟨_, hN, rfl, _, rfl⟩⟩
    have hS' : (upd (upd H S (.lst vs)) s.heap.objs.size (.tup [xs[i]'(by omega), ys[i]'(by omega)])) S = some (.lst vs) := by rw [upd_ne (Ne.symm hTS), upd_same]
    obtain ⟨_, itS, nS, rS, hlS, pS⟩ := I1.lstM hS'
    show wpAny _ A.in1 (updateSeq S (·.push (.ref s.heap.objs.size)) >>= _) _ _ _
    have hsz : itS.length = i := by rw [← hlS, hv]
    have I2 := I1.lset (its' := itS ++ [.ref s.heap.objs.size]) (ys := vs ++ [.ref s.heap.objs.size]) (f := (·.push (.ref s.heap.objs.size))) (t' := s.toks) hS' pS (by simp) (rS.append (Paired.cons (show RelV (.ref s.heap.objs.size) (.ref s.heap.objs.size) from rfl) Paired.nil)) (by rw [List.length_append, hv, sizeLine_eq]; simp; omega)
    rw [upd_swap (Ne.symm hTS), upd_twice] at I2
    refine wpAny_bind (wpAny_updateSeq pS rfl (wpAny_pure ⟨plainId_quiet F.plain_extend_loop _, ?_⟩) (by rw [List.size_toArray, hsz, sizeLine_eq]; omega) (by show (itS.toArray.push _).size ≤ sizeLine + 1; rw [Array.size_push, List.size_toArray, hsz, sizeLine_eq]; omega))
    refine ih (i + 1) _ (upd H s.heap.objs.size (.tup [xs[i]'(by omega), ys[i]'(by omega)])) (vs ++ [.ref s.heap.objs.size]) (by omega) (by omega) I2 (by rw [upd_ne (Ne.symm hTS)]; exact hSn) (by simp [hv])
      (by rw [upd_ne (fun e => by rw [e, hTH] at h1; cases h1)]; exact h1) (by rw [upd_ne (fun e => by rw [e, hTH] at h2; cases h2)]; exact h2) (fun c hb => ⟨?_, (fp c hb).2⟩) (fun c hb => ?_) ?_ (hG i _ _ vs H g hx hy _ hTH)
    · have c1 := (fp c hb).1
      have c2 : c ≠ S := fun e => hS (e ▸ hb)
      have c3 : c ≠ s.heap.objs.size := fun e => by
        exact absurd (lt c hb) (by rw [e]; exact Nat.lt_irrefl _)
      rw [upd_ne c2, upd_ne c3]
      rw [upd_ne c2] at c1
      exact c1
    · obtain ⟨_, _, _, o, ho, _⟩ := I2.hok s.heap.objs.size (.tup [xs[i]'(by omega), ys[i]'(by omega)]) (by rw [upd_ne hTS, upd_same])
      exact Nat.lt_trans (lt c hb) (Heap.lt_size ho)
    · refine ZS.at (zs (upd (upd H s.heap.objs.size (.tup [xs[i]'(by omega), ys[i]'(by omega)])) S (.lst (vs ++ [.ref s.heap.objs.size]))) (.inr ⟨_, by rw [upd_ne hTS, upd_same]⟩) fun b o e => ?_) fun c hb o q => ?_
      · have b1 : b ≠ S := fun z => by rw [z, upd_same] at e; cases e
        have b2 : b ≠ s.heap.objs.size := fun z => by rw [z, hTn] at e; cases e
        rw [upd_ne b1, upd_ne b2]
        rw [upd_ne b1] at e
        exact e
      · exact (Heap.get?_update_other _ _ (fun e : S = c => hS (e ▸ hb))).trans q
end
section
variable {X : Cx} {E : XK} {e e2 : Expr} {ta : TA} {wa : WA} {p pz pos posz : Pos}
def tListZip (ta : TA) : TE := fun σ H Q => ta σ H fun vs H1 => ∃ l1 l2 xs ys, vs = [.ref l1, .ref l2] ∧ H1 l1 = some (.lst xs) ∧ H1 l2 = some (.lst ys) ∧ xs.length ≤ 100000 ∧ ∃ G : Nat → List V → Hp → Prop, G 0 [] H1 ∧
  (∀ i x y vs H, G i vs H → xs[i]? = some x → ys[i]? = some y → ∀ T, H T = none → G (i + 1) (vs ++ [.ref T]) (upd H T (.tup [x, y]))) ∧
  ∀ vs H, G (min xs.length ys.length) vs H → ∀ S, H S = none → Q (.ref S) (upd H S (.lst vs))
theorem pe_listZip (hc : X.calm = true) (hg : Gl X "list") (hm : X.mg "list" = none) (hgz : Gl X "zip") (hmz : X.mg "zip" = none) (ha : PA X [e, e2] ta)
    (hs : starEach [e, e2] X.env = (false, eval e X.env) :: starEach [e2] X.env := by rfl) (hpl : (backTo posz (starEach [e2] X.env)).any (·.1) = false := by rfl) :
    PE X (.Call (.Name "list" p) [.Call (.Name "zip" pz) [e, e2] [] posz] [] pos) (tListZip ta) := by
  refine ⟨fun pins s σ H Q I h => Call_ (ld_blt I hg hm boot_list ?_)⟩
  refine callWith_type1 (args_cons (Call_ (ld_blt I hgz hmz boot_zip ?_)) rfl) rfl rfl
  refine callWith_type1 (thn (ha.run posz pins s σ H _ I h) fun us s1 ⟨vs, H1, I1, r1, q1⟩ => ?_) hs hpl
  obtain ⟨l1, l2, xs, ys, ex, h1, h2, hlen, G, g0, gs, ge⟩ := q1
  subst ex
  obtain ⟨b1, b2, rfl, q1, q2⟩ := vals2 r1
  cases q1
  cases q2
  obtain ⟨_, its1, n1, rv1, hl1, p1⟩ := I1.lstM h1
  obtain ⟨_, its2, n2, rv2, hl2, p2⟩ := I1.lstM h2
  have la : l1 < s1.heap.objs.size := Heap.lt_size p1
  have lb : l2 < s1.heap.objs.size := Heap.lt_size p2
  refine call_zip_2 (xs := its1.toArray) (ys := its2.toArray) ⟨_, p1, rfl, _, rfl⟩ ⟨_, p2, rfl, _, rfl⟩ fun h' hz hTI hTO j1 j2 hsz hk => args_nil ?_
  have I2 : Inv X pins σ H1 { s1 with heap := h' } := I1.kept (t' := s1.toks) hk
  have D := PySem.W.ktu_apart s1.heap.objs.size l1 l2 la lb
  have five : ∀ c ∈ [s1.heap.objs.size + 4, s1.heap.objs.size + 2, s1.heap.objs.size + 3, s1.heap.objs.size, s1.heap.objs.size + 1], s1.heap.objs.size ≤ c ∧ c < h'.objs.size := fun c hcm => by
    rw [hsz]
    rcases (by simpa using hcm : c = s1.heap.objs.size + 4 ∨ c = s1.heap.objs.size + 2 ∨ c = s1.heap.objs.size + 3 ∨ c = s1.heap.objs.size ∨ c = s1.heap.objs.size + 1) with z | z | z | z | z <;> subst z <;> constructor <;> omega
  refine callType_codes (Q₁ := fun obj s₂ => obj = .ref h'.objs.size ∧ s₂ = { s1 with heap := h'.push { cls := .type "list", data := .seq #[] } }) F.called_list (F.typeCall_list_1 _) F.entry_list_init (code_list_new _ ⟨rfl, rfl⟩) fun obj s₂ hq => ?_
  obtain ⟨rfl, rfl⟩ := hq
  have hS : (h'.push { cls := .type "list", data := .seq #[] }).get? h'.objs.size = some { cls := .type "list", data := .seq #[] } := Heap.get?_push_size _ rfl
  refine ⟨⟨_, hS, rfl⟩, F.args_list_init_2 _ _, ?_⟩
  have hSn : H1 h'.objs.size = none := I2.hok.fresh (Nat.le_refl _)
  have I3 : Inv X pins σ (upd H1 h'.objs.size (.lst [])) { s1 with heap := h'.push { cls := .type "list", data := .seq ([] : List Value).toArray } } := I2.lnew (t' := s1.toks) .nil (Nat.zero_le _)
  show wpAny _ X.A.in1.in1 (do let old ← Builtin.List.listItems (.ref h'.objs.size); Builtin.List.listUpdate (.ref h'.objs.size) (fun _ => #[]); letGo old.toList.reverse; Builtin.List.listExtendWith (.ref h'.objs.size) (.ref (s1.heap.objs.size + 4)) .none) _ _ _
  refine wpAny_bind ?_
  unfold Builtin.List.listItems
  refine wpAny_bind (wpAny_seqItems hS rfl (wpAny_pure ?_))
  show wpAny _ _ (updateSeq h'.objs.size (fun _ => #[]) >>= fun _ => letGo (#[] : Array Value).toList.reverse >>= fun _ => Builtin.List.listExtendWith (.ref h'.objs.size) (.ref (s1.heap.objs.size + 4)) .none) _ _ _
  refine wpAny_bind (wpAny_updateSeq hS rfl ?_)
  have I4 := I3.lset (its := []) (its' := []) (ys := []) (f := fun _ => #[]) (t' := s1.toks) upd_same hS rfl .nil (Nat.zero_le _)
  rw [upd_twice] at I4
  have hz4 : IsZip ((h'.push { cls := .type "list", data := .seq ([] : List Value).toArray }).update h'.objs.size (Obj.mapSeq fun _ => (#[] : Array Value))) (s1.heap.objs.size + 4) (s1.heap.objs.size + 2) (s1.heap.objs.size + 3) .none :=
    (Heap.get?_update_other _ _ (Nat.ne_of_gt (five _ (by simp)).2)).trans (Heap.get?_push_of_some _ hz)
  have keepU : ∀ b o, b ≠ h'.objs.size → h'.get? b = some o → ((h'.push { cls := .type "list", data := .seq ([] : List Value).toArray }).update h'.objs.size (Obj.mapSeq fun _ => (#[] : Array Value))).get? b = some o :=
    fun b o hb e => (Heap.get?_update_other _ _ (Ne.symm hb)).trans (Heap.get?_push_of_some _ e)
  refine wpAny_bind (wpAny_letGo ?_)
  have hz5 : ∀ s5 : Shared, IsZip s5.heap (s1.heap.objs.size + 4) (s1.heap.objs.size + 2) (s1.heap.objs.size + 3) .none → s5.TypeIs (.ref (s1.heap.objs.size + 4)) "zip" := fun s5 z => ⟨_, z, rfl⟩
  unfold Builtin.List.listExtendWith
  refine wpAny_bind (wpAny_typeOf (hz5 _ hz4) ?_)
  have ne5 : h'.objs.size ≠ s1.heap.objs.size + 4 := Nat.ne_of_gt (five _ (by simp)).2
  have c1 : Builtin.List.listSameRef (.ref h'.objs.size) (.ref (s1.heap.objs.size + 4)) = false := by simp [Builtin.List.listSameRef, ne5]
  have c2 : (Value.type "zip" == Value.type "list") = false := by decide
  have c3 : (Value.type "zip" == Value.type "tuple") = false := by decide
  simp only [c1, c2, c3, Bool.or_false, Bool.false_eq_true, if_false]
  refine wpAny_bind (wpAny_pyIter_zip hz4 ?_)
  refine wpAny_bind (wpAny_holding ?_)
  unfold Builtin.List.listLengthHint
  refine wpAny_bind (wpAny_specialOf (hz5 _ hz4) zip_len0 ?_)
  show wpAny _ X.A.in1.in1 (specialOf (Value.ref (s1.heap.objs.size + 4)) (Str.ofString "__length_hint__") >>= _) _ _ _
  refine wpAny_bind (wpAny_specialOf (hz5 _ hz4) zip_hint0 ?_)
  refine wpAny_pure ?_
  obtain ⟨_, it5, n5, r5, hl5, hS5⟩ := I4.lstM upd_same
  have e5 : it5 = [] := by cases r5; rfl
  subst e5
  show wpAny _ X.A.in1.in1 (rule "list.extend.makes-room" >>= fun _ => Builtin.List.listTouch (.ref h'.objs.size) >>= fun _ => again (.builtin "list.extend.loop" ⟨[.ref h'.objs.size, .ref (s1.heap.objs.size + 4), .none], []⟩)) _ _ _
  refine wpAny_bind (wpAny_rule (wpAny_bind ?_))
  show wpAny _ X.A.in1.in1 (updateSeq h'.objs.size (·.push .none) >>= fun _ => updateSeq h'.objs.size (·.pop)) _ _ _
  refine wpAny_bind (wpAny_updateSeq hS5 rfl ?_)
  have hS6 := Heap.get?_update_self (Obj.mapSeq (·.push Value.none)) hS5 rfl
  refine wpAny_updateSeq hS6 rfl (wpAny_pure ⟨plainId_quiet F.plain_extend_loop _, ?_⟩)
  have I5 := I4.lset (its' := [Value.none]) (ys := [V.non]) (f := (·.push Value.none)) (t' := s1.toks) upd_same hS5 rfl (Paired.cons (show RelV .non .none from rfl) Paired.nil) (by show 1 ≤ sizeLine; decide)
  rw [upd_twice] at I5
  have I6 := I5.lset (its := [Value.none]) (its' := []) (ys := []) (f := (·.pop)) (t' := s1.toks) upd_same hS6 rfl .nil (Nat.zero_le _)
  rw [upd_twice] at I6
  have keep6 : ∀ c o, c ≠ h'.objs.size → h'.get? c = some o → ((((h'.push { cls := .type "list", data := .seq #[] }).update h'.objs.size (Obj.mapSeq fun _ => (#[] : Array Value))).update h'.objs.size (Obj.mapSeq (·.push Value.none))).update h'.objs.size (Obj.mapSeq (·.pop))).get? c = some o :=
    fun c o hc q => (Heap.get?_update_other _ _ (Ne.symm hc)).trans ((Heap.get?_update_other _ _ (Ne.symm hc)).trans (keepU c o hc q))
  have hne : ∀ c ∈ [s1.heap.objs.size + 4, s1.heap.objs.size + 2, s1.heap.objs.size + 3, s1.heap.objs.size, s1.heap.objs.size + 1], c ≠ h'.objs.size := fun c hb => Nat.ne_of_lt (five c hb).2
  have lt6 : ∀ c o, ((((h'.push { cls := .type "list", data := .seq #[] }).update h'.objs.size (Obj.mapSeq fun _ => (#[] : Array Value))).update h'.objs.size (Obj.mapSeq (·.push Value.none))).update h'.objs.size (Obj.mapSeq (·.pop))).get? c = some o → c < ((((h'.push { cls := .type "list", data := .seq #[] }).update h'.objs.size (Obj.mapSeq fun _ => (#[] : Array Value))).update h'.objs.size (Obj.mapSeq (·.push Value.none))).update h'.objs.size (Obj.mapSeq (·.pop))).objs.size := fun c o q => Heap.lt_size q
  have z0 : ZS (upd H1 h'.objs.size (.lst [])) h' (s1.heap.objs.size + 4) (s1.heap.objs.size + 2) (s1.heap.objs.size + 3) s1.heap.objs.size (s1.heap.objs.size + 1) l1 l2 0 := ⟨hTI, j1, j2, .inl ⟨hz, _, _, hTO⟩⟩
  refine zip_loop (A := X.A.in1) (I6.ok.hd hc) D (fun m => hne _ m rfl) hlen gs (fun s' H' vs' I' n' g' => ⟨rfl, .ref h'.objs.size, _, I', rfl, ge vs' H' g' _ n'⟩) _ 0 _ H1 [] rfl (Nat.zero_le _) I6 hSn rfl h1 h2 (fun c hb => ?_) (fun c hb => ?_) (z0.at fun c hb o q => keep6 c o (hne c hb) q) g0
  · exact I1.fpOk (five c hb).1 (by rw [upd_ne (hne c hb)]; exact I1.hok.fresh (five c hb).1)
  · have live : ∃ o, h'.get? c = some o := by
      rcases (by simpa using hb : c = s1.heap.objs.size + 4 ∨ c = s1.heap.objs.size + 2 ∨ c = s1.heap.objs.size + 3 ∨ c = s1.heap.objs.size ∨ c = s1.heap.objs.size + 1) with q | q | q | q | q
      · exact ⟨_, q ▸ hz⟩
      · exact ⟨_, q ▸ hTI⟩
      · exact ⟨_, q ▸ hTO⟩
      · obtain ⟨o, ho, _⟩ := j1; exact ⟨o, q ▸ ho⟩
      · obtain ⟨o, ho, _⟩ := j2; exact ⟨o, q ▸ ho⟩
    obtain ⟨o, ho⟩ := live
    exact lt6 c o (keep6 c o (hne c hb) ho)
def zipD (xs ys : List D) : List D := xs.zipWith (fun x y => PyData.tuple [x, y]) ys
def gZip : AS → List Ev → (List D → Prop) → Prop := fun a rs K => ∃ r u xs ys, rs = [r, u] ∧ vw a r = some (.list xs) ∧ vw a u = some (.list ys) ∧ xs.length ≤ 100000 ∧ K (zipD xs ys)
def wListZip (wa : WA) : WE := fun a K B => wa a (fun rs a1 => gZip a1 rs fun zs => K (.nl zs) a1) B
theorem zipD_snoc {xs ys : List D} {i : Nat} {x y : D} (h1 : xs[i]? = some x) (h2 : ys[i]? = some y) : (zipD xs ys).take (i + 1) = (zipD xs ys).take i ++ [.tuple [x, y]] := by
  rw [List.take_add_one]
  congr 1
  unfold zipD
  rw [List.getElem?_zipWith, h1, h2]
  rfl
theorem de_listZip (hc : X.calm = true) (hg : Gl X "list") (hm : X.mg "list" = none) (hgz : Gl X "zip") (hmz : X.mg "zip" = none) (ha : DA X E [e, e2] ta wa)
    (hs : starEach [e, e2] X.env = (false, eval e X.env) :: starEach [e2] X.env := by rfl) (hpl : (backTo posz (starEach [e2] X.env)).any (·.1) = false := by rfl) :
    DE X E (.Call (.Name "list" p) [.Call (.Name "zip" pz) [e, e2] [] posz] [] pos) (tListZip ta) (wListZip wa) := ⟨pe_listZip hc hg hm hgz hmz ha.pa hs hpl, by
  intro a K B k σ F H fps x Q q b
  refine ha.so a _ B k σ F H fps x _ (fun rs a1 vs F1 H1 ⟨r, u, xs, ys, e0, e1, e2, hl, k1⟩ n1 x1 l1 o1 w1 => ?_) b
  subst e0
  obtain ⟨v1, v2, rfl, o1, o2⟩ := vals_two o1
  obtain ⟨p1, us1, rfl, hp1, r1⟩ := vw_list x1 o1 e1
  obtain ⟨p2, us2, rfl, hp2, r2⟩ := vw_list x1 o2 e2
  refine ⟨p1, p2, us1, us2, rfl, hp1, hp2, by rw [r1.length]; exact hl, fun i vs H' => ∃ F', AOk a1 σ F' H' fps ∧ Le F1 H1 fps.flatten F' H' fps.flatten ∧ RepAll F' vs ((zipD xs ys).take i),
    ⟨F1, x1, Le.refl _ _ _, by rw [List.take_zero]; exact .nil⟩, ?_, ?_⟩
  · rintro i y z vs H' ⟨F', x', l', rr⟩ hy hz T hT
    obtain ⟨d1, f1, g1⟩ := r1.get hy
    obtain ⟨d2, f2, g2⟩ := r2.get hz
    refine ⟨_, x'.newF (o := .tup [y, z]) hT, l'.trans (Le.newF x'.sub hT), ?_⟩
    rw [zipD_snoc f1 f2]
    have sb : Sub F' (upd F' T (.tup [y, z])) := Sub.put (x'.sub.gone hT)
    exact (rr.mono sb).app (.one (.tup upd_same (.cons ((g1.mono l'.fr).mono sb) (.cons ((g2.mono l'.fr).mono sb) .nil))))
  · rintro vs H' ⟨F', x', l', rr⟩ S hS
    have el : (zipD xs ys).take (min us1.length us2.length) = zipD xs ys := List.take_of_length_le (by unfold zipD; rw [List.length_zipWith, r1.length, r2.length]; exact Nat.le_refl _)
    rw [el] at rr
    exact q _ a1 _ _ _ k1 n1 (x'.newH hS) ((l1.trans l').trans (Le.newH hS)) ⟨S, vs, rfl, upd_same, x'.sub.gone hS, x'.fresh hS, rr⟩ fun p' e' => by cases e'; exact l1.ex _ (l'.ex _ hS)⟩
end
end DL
namespace DL
open PySem PySem.Spec PyProof.Rows L2
abbrev stK (L C : Addr) (left turn : Int) : List (Key × V) := [(Sum.inr "large", V.ref L), (Sum.inr "cells", V.ref C), (Sum.inr "left", V.int left), (Sum.inr "turn", V.int turn)]
def kL : Key := Sum.inr "large"
def kC : Key := Sum.inr "cells"
def kF : Key := Sum.inr "left"
def kT : Key := Sum.inr "turn"
theorem kLC : ¬ kL = kC := by decide
theorem kLF : ¬ kL = kF := by decide
theorem kLT : ¬ kL = kT := by decide
theorem kCF : ¬ kC = kF := by decide
theorem kCT : ¬ kC = kT := by decide
theorem kFT : ¬ kF = kT := by decide
theorem st_large {L C left turn} : valV (stK L C left turn) kL = some (.ref L) := valV_pos rfl
theorem st_cells {L C left turn} : valV (stK L C left turn) kC = some (.ref C) :=
  (valV_neg (p := (kL, V.ref L)) kLC).trans (valV_pos rfl)
theorem st_left {L C left turn} : valV (stK L C left turn) kF = some (.int left) :=
  (valV_neg (p := (kL, V.ref L)) kLF).trans ((valV_neg (p := (kC, V.ref C)) kCF).trans (valV_pos rfl))
theorem st_turn {L C left turn} : valV (stK L C left turn) kT = some (.int turn) :=
  (valV_neg (p := (kL, V.ref L)) kLT).trans ((valV_neg (p := (kC, V.ref C)) kCT).trans ((valV_neg (p := (kF, V.int left)) kFT).trans (valV_pos rfl)))
theorem put_left {L C left turn} (x : Int) : putK (stK L C left turn) kF (.int x) = stK L C x turn := by
  show putK [(kL, V.ref L), (kC, V.ref C), (kF, V.int left), (kT, V.int turn)] kF (.int x) = [(kL, V.ref L), (kC, V.ref C), (kF, V.int x), (kT, V.int turn)]
  simp only [putK, List.any_cons, List.any_nil, List.map_cons, List.map_nil, kLF, kCF, Ne.symm kFT, decide_true, decide_false, Bool.false_or, Bool.true_or, if_true, if_false]
theorem put_turn {L C left turn} (x : Int) : putK (stK L C left turn) kT (.int x) = stK L C left x := by
  show putK [(kL, V.ref L), (kC, V.ref C), (kF, V.int left), (kT, V.int turn)] kT (.int x) = [(kL, V.ref L), (kC, V.ref C), (kF, V.int left), (kT, V.int x)]
  simp only [putK, List.any_cons, List.any_nil, List.map_cons, List.map_nil, kLT, kCT, kFT, decide_true, decide_false, Bool.false_or, Bool.true_or, Bool.or_true, Bool.or_false, if_true, if_false]
structure Dr0 (H0 H : Hp) (st L C : Addr) (large cells : List Int) (left turn : Int) : Prop where
  s : H st = some (.dK (stK L C left turn))
  l : H L = some (.lst (large.map V.int))
  c : H C = some (.lst (cells.map V.int))
  sL : st ≠ L
  sC : st ≠ C
  LC : L ≠ C
  k : ∀ b o, b ≠ st → b ≠ L → H0 b = some o → H b = some o
  x : ∀ b, H b = none → H0 b = none
structure Dr (H0 H : Hp) (st L C : Addr) (large cells : List Int) (left turn : Int) : Prop extends Dr0 H0 H st L C large cells left turn where
  t : ∀ b xs, H b = some (.tup xs) → H0 b = some (.tup xs)
section
variable {H0 H : Hp} {st L C p : Addr} {large cells : List Int} {left turn : Int} {o : HO}
theorem Dr.new (d : Dr H0 H st L C large cells left turn) (h : H p = none) (ht : ∀ xs, o ≠ .tup xs := by intro _ z; cases z) : Dr H0 (upd H p o) st L C large cells left turn where
  s := by rw [upd_ne (fun e => by have := d.s; rw [e, h] at this; cases this)]; exact d.s
  l := by rw [upd_ne (fun e => by have := d.l; rw [e, h] at this; cases this)]; exact d.l
  c := by rw [upd_ne (fun e => by have := d.c; rw [e, h] at this; cases this)]; exact d.c
  sL := d.sL
  sC := d.sC
  LC := d.LC
  k := fun b u h1 h2 h3 => by
    rw [upd_ne (fun e => by have := d.k b u h1 h2 h3; rw [e, h] at this; cases this)]
    exact d.k b u h1 h2 h3
  x := fun b hb => by
    by_cases e : b = p
    · subst e; rw [upd_same] at hb; cases hb
    · rw [upd_ne e] at hb; exact d.x b hb
  t := tp_upd d.t ht
theorem Dr.put (d : Dr H0 H st L C large cells left turn) {left' turn' : Int} : Dr H0 (upd H st (.dK (stK L C left' turn'))) st L C large cells left' turn' where
  s := upd_same
  l := by rw [upd_ne (Ne.symm d.sL)]; exact d.l
  c := by rw [upd_ne (Ne.symm d.sC)]; exact d.c
  sL := d.sL
  sC := d.sC
  LC := d.LC
  k := fun b u h1 h2 h3 => by rw [upd_ne h1]; exact d.k b u h1 h2 h3
  x := fun b hb => by
    by_cases e : b = st
    · subst e; rw [upd_same] at hb; cases hb
    · rw [upd_ne e] at hb; exact d.x b hb
  t := tp_upd d.t
theorem Dr.cut (d : Dr H0 H st L C large cells left turn) {large' : List Int} : Dr H0 (upd H L (.lst (large'.map V.int))) st L C large' cells left turn where
  s := by rw [upd_ne d.sL]; exact d.s
  l := upd_same
  c := by rw [upd_ne (Ne.symm d.LC)]; exact d.c
  sL := d.sL
  sC := d.sC
  LC := d.LC
  k := fun b u h1 h2 h3 => by rw [upd_ne h2]; exact d.k b u h1 h2 h3
  x := fun b hb => by
    by_cases e : b = L
    · subst e; rw [upd_same] at hb; cases hb
    · rw [upd_ne e] at hb; exact d.x b hb
  t := tp_upd d.t
theorem Dr.gLarge (d : Dr H0 H st L C large cells left turn) : DGet H st (.str "large") (some (.ref L)) := by
  have z := DGet.k (k := kL) d.s
  rw [st_large] at z; exact z
theorem Dr.gCells (d : Dr H0 H st L C large cells left turn) : DGet H st (.str "cells") (some (.ref C)) := by
  have z := DGet.k (k := kC) d.s
  rw [st_cells] at z; exact z
theorem Dr.gLeft (d : Dr H0 H st L C large cells left turn) : DGet H st (.str "left") (some (.int left)) := by
  have z := DGet.k (k := kF) d.s
  rw [st_left] at z; exact z
theorem Dr.gTurn (d : Dr H0 H st L C large cells left turn) : DGet H st (.str "turn") (some (.int turn)) := by
  have z := DGet.k (k := kT) d.s
  rw [st_turn] at z; exact z
theorem Dr.pLeft (d : Dr H0 H st L C large cells left turn) (x : Int) : DPut H st (.str "left") (.int x) (upd H st (.dK (stK L C x turn))) := by
  have z := DPut.k (k := kF) (v := .int x) d.s (by show 4 < sizeLine; decide)
  rw [put_left] at z; exact z
theorem Dr.pTurn (d : Dr H0 H st L C large cells left turn) (x : Int) : DPut H st (.str "turn") (.int x) (upd H st (.dK (stK L C left x))) := by
  have z := DPut.k (k := kT) (v := .int x) d.s (by show 4 < sizeLine; decide)
  rw [put_turn] at z; exact z
theorem Rep.ints {F : Hp} {a : Addr} {ns : List Int} (h : F a = some (.lst (ns.map V.int))) : Rep F (.ref a) (.list (ns.map PyData.int)) := .lst h (RepAll.ints ns)
theorem eqv_ints : ∀ ms ns : List Int, PyData.eqv (.list (ms.map PyData.int)) (.list (ns.map PyData.int)) = decide (ms = ns) := by
  have go : ∀ ms ns : List Int, PyData.eqvAll (ms.map PyData.int) (ns.map PyData.int) = decide (ms = ns) := by
    intro ms
    induction ms with
    | nil => intro ns; cases ns with
      | nil => rfl
      | cons n ns => rfl
    | cons m ms ih =>
      intro ns
      cases ns with
      | nil => rfl
      | cons n ns =>
        show (PyData.eqv (.int m) (.int n) && PyData.eqvAll (ms.map PyData.int) (ns.map PyData.int)) = _
        rw [ih]
        show ((m == n) && decide (ms = ns)) = decide (m :: ms = n :: ns)
        by_cases h : m = n <;> by_cases h2 : ms = ns <;> simp [h, h2]
  intro ms ns
  exact go ms ns
end
end DL
namespace DL
open PySem PySem.Spec PyProof.Rows L2
abbrev tSt (k : Str) : TE := tDGet (tVar 0) (tC (.str k))
abbrev tModI : R2 := rI (fun _ j => 0 < j) fun i j => V.int (i % j)
abbrev tInt (t : TE) : TE := tCB (rI1 fun i => i) (tCons t tNil)
abbrev tDrawW (K : PySem.W.Frag) : TS :=
  tWhile (tAnd (tTest (tOp DL.rEqD (tSt "left") (tC (.int 0)))) (tTest (tOp DL.rNeD (tSt "large") (tLst tNil))))
    (sDPut (tVar 0) (tC (.str "left")) (tBM K "list" rPopAt (tSt "large") (tCons (tC (.int 0)) tNil)))
abbrev tDrawL : TS := tSeq (tAsg (tOp tModI (tInt (tSt "left")) (tVar 1)) (gName 5))
  (tSeq (sDPut (tVar 0) (tC (.str "left")) (tOp (rI CDiv fun i j => .int (i / j)) (tSt "left") (tVar 1))) (tRet (tVar 5)))
abbrev tMix (K : PySem.W.Frag) : TE := tOp tModI (tInt (tOp (rI CPow fun i j => V.int (i ^ j.toNat)) (tOp (rAddD K) (tOp (rAddD K) (tOp tModI (tInt (tVar 3)) (tC (.int 2147483563))) (tOp (rI CMul fun i j => .int (i * j)) (tC (.int 40692)) (tVar 2))) (tC (.int 24681))) (tC (.int 3)))) (tC (.int 2147483629))
abbrev tOut (K : PySem.W.Frag) : TE := tOp tModI (tInt (tOp (rI CDiv fun i j => .int (i / j)) (tOp tModI (tInt (tOp (rI CPow fun i j => V.int (i ^ j.toNat)) (tOp (rAddD K) (tVar 4) (tOp (rI CMul fun i j => .int (i * j)) (tC (.int 104917)) (tVar 2))) (tC (.int 5)))) (tC (.int 2147483579))) (tC (.int 29)))) (tVar 1)
abbrev tDrawT (K : PySem.W.Frag) : TS := tSeq (tAsg (tOp (rAddD K) (tSt "turn") (tC (.int 1))) (gName 2)) (tSeq (sDPut (tVar 0) (tC (.str "turn")) (tVar 2))
  (tSeq (tAsg (tIf (tTest (tOp DL.rNeD (tSt "cells") (tLst tNil))) (tOp rIxS2 (tSt "cells") (tOp tModI (tInt (tVar 2)) (tCB rLenS (tCons (tSt "cells") tNil)))) (tC (.int 0))) (gName 3))
  (tSeq (tAsg (tMix K) (gName 4)) (tRet (tOut K)))))
def tDraw (K : PySem.W.Frag) : TS := tSeq (tDrawW K) (tSeq (tIfS (tTest (tOp (rLtD fGt) (tSt "left") (tC (.int 0)))) tDrawL tNext) (tDrawT K))
def spDraw : Sp := fun vs H Q _ => ∃ st L C large cells left turn size, vs = [.ref st, .int size] ∧ Dr H H st L C large cells left turn ∧ 0 < size ∧ size ≤ 100000 ∧ 0 ≤ turn ∧ turn < 10 ^ 9 ∧ large.length ≤ 100000 ∧
  ∀ r H' large' left' turn', 0 ≤ r → r < size → Dr H H' st L C large' cells left' turn' → large'.length ≤ 100000 → turn ≤ turn' → turn' ≤ turn + 1 → Q (.int r) H'
theorem rdSt {σ : Sgm} {H : Hp} {Q : VK} {st : Addr} {key : Str} {v : V} (h0 : σ[0]? = some (some (.ref st))) (g : DGet H st (.str key) (some v)) (q : Q v H) : tSt key σ H Q := ⟨.ref st, h0, st, v, rfl, g, q⟩
theorem plain_ints : ∀ ns : List Int, PyData.plainAll (ns.map PyData.int) = true
  | [] => rfl
  | n :: ns => by
    show (true && PyData.plainAll (ns.map PyData.int)) = true
    rw [plain_ints ns]; rfl
theorem neNil {H0 H : Hp} {st L C : Addr} {large cells : List Int} {left turn : Int} {a : Addr} {ns : List Int} {σ : Sgm} {Q : Bool → Hp → Prop} (d : Dr H0 H st L C large cells left turn) (ha : H a = some (.lst (ns.map V.int)))
    (q : ∀ p, H p = none → Q (!decide (ns = [])) (upd H p (.lst []))) : tLst tNil σ H fun y H2 => DL.rNeD (.ref a) y H2 fun x H' => ∃ k, x = .bl k ∧ Q k H' := by
  refine ⟨Nat.zero_le _, fun p hp => ⟨.list (ns.map PyData.int), .list ([].map PyData.int), ?_, .lst upd_same .nil, plain_ints ns, rfl, Nat.le_trans (Nat.min_le_right _ _) (by decide), _, rfl, ?_⟩⟩
  · exact Rep.ints (by rw [upd_ne (fun e => by rw [e, hp] at ha; cases ha)]; exact ha)
  · rw [eqv_ints]; exact q p hp
section
variable {K : PySem.W.Frag} {H0 : Hp} {st L C : Addr} {cells : List Int} {size : Int} {D : Ends}
theorem draw_left {H : Hp} {large : List Int} {left turn : Int} (d : Dr H0 H st L C large cells left turn) (hs : 0 < size) (hs2 : size ≤ 100000)
    (q : ∀ r H' left', 0 ≤ r → r < size → Dr H0 H' st L C large cells left' turn → D.rt (.int r) H') : tDrawL D [some (.ref st), some (.int size), none, none, none, none] H := by
  refine rdSt rfl d.gLeft ⟨left, rfl, .int size, rfl, _, _, rfl, rfl, hs, ?_⟩
  refine rdSt rfl d.gLeft ⟨.int size, rfl, _, _, rfl, rfl, ⟨hs, by omega⟩, .ref st, rfl, st, _, rfl, d.pLeft _, .int (left % size), rfl, ?_⟩
  exact q _ _ _ (Int.emod_nonneg _ (by omega)) (Int.emod_lt_of_pos _ hs) d.put
theorem draw_while {H : Hp} {large : List Int} {left turn : Int} (d : Dr H0 H st L C large cells left turn) (hl : large.length ≤ 100000) {σ : Sgm} (h0 : σ[0]? = some (some (.ref st)))
    (q : ∀ H' large' left', large'.length ≤ 100000 → Dr H0 H' st L C large' cells left' turn → D.nx σ H') : tDrawW K D σ H := by
  refine ⟨fun m σ' H' => σ' = σ ∧ ∃ large' left', m = large'.length ∧ m ≤ 100000 ∧ Dr H0 H' st L C large' cells left' turn, ⟨_, rfl, large, left, rfl, hl, d⟩, ?_⟩
  rintro m σ' H' ⟨rfl, large', left', rfl, hm, d'⟩
  refine rdSt h0 d'.gLeft ⟨.int left', .int 0, .int _, .int _, rfl, rfl, Nat.le_trans (Nat.min_le_right _ _) (by decide), _, rfl, ?_⟩
  cases PyData.eqv (.int left') (.int 0) with
  | false =>
    simp only [Bool.false_eq_true, if_false]
    exact q _ _ _ hm d'
  | true =>
    simp only [if_true]
    refine rdSt h0 d'.gLarge (neNil d' d'.l fun p hp => ?_)
    cases large' with
    | nil =>
      simp only [decide_true, Bool.not_true, Bool.false_eq_true, if_false]
      exact q _ _ _ hm (d'.new hp)
    | cons x rest =>
      simp only [reduceCtorEq, decide_false, Bool.not_false, if_true]
      have d2 : Dr H0 (upd H' p (.lst [])) st L C (x :: rest) cells left' turn := d'.new hp
      refine ⟨_, fun σ1 H1 h => h, ?_⟩
      refine rdSt h0 d2.gLarge ⟨.inl ⟨rfl, _, SqL.of d2.l⟩, L, (x :: rest).map V.int, 0, 0, .int x, rfl, rfl, d2.l, by decide, by decide, ?_, rfl, ?_⟩
      · unfold seqIndex?
        simp
      · have d3 : Dr H0 (upd (upd H' p (.lst [])) L (.lst (rest.map V.int))) st L C rest cells left' turn := d2.cut
        refine ⟨.ref st, h0, st, _, rfl, d3.pLeft x, ⟨_, by simp, rfl, rest, x, rfl, ?_, d3.put⟩⟩
        simp at hm; omega
theorem lt64 {i : Int} (h0 : 0 ≤ i) (h : i < 18446744073709551616) : i.natAbs < 2 ^ 64 := by omega
theorem draw_turn {H : Hp} {large : List Int} {left turn : Int} (d : Dr H0 H st L C large cells left turn) (hs : 0 < size) (hs2 : size ≤ 100000) (t0 : 0 ≤ turn) (t1 : turn < 10 ^ 9)
    (q : ∀ r H', 0 ≤ r → r < size → Dr H0 H' st L C large cells left (turn + 1) → D.rt (.int r) H') : tDrawT K D [some (.ref st), some (.int size), none, none, none, none] H := by
  refine rdSt rfl d.gTurn (.inl ⟨turn, 1, rfl, rfl, ?_⟩)
  refine ⟨.int (turn + 1), rfl, .ref st, rfl, st, _, rfl, d.pTurn _, ?_⟩
  have d1 : Dr H0 (upd H st (.dK (stK L C left (turn + 1)))) st L C large cells left (turn + 1) := d.put
  generalize upd H st (.dK (stK L C left (turn + 1))) = H1 at d1
  have rest : ∀ (x : Int) (H2 : Hp), Dr H0 H2 st L C large cells left (turn + 1) → tSeq (tAsg (tMix K) (gName 4)) (tRet (tOut K)) D [some (.ref st), some (.int size), some (.int (turn + 1)), some (.int x), none, none] H2 := by
    intro x H2 d2
    have a1 := Int.emod_nonneg x (b := 2147483563) (by decide)
    have a2 := Int.emod_lt_of_pos x (b := 2147483563) (by decide)
    refine ⟨.int x, rfl, x, rfl, _, _, rfl, rfl, (by decide : (0 : Int) < 2147483563), ?_⟩
    refine ⟨.int (turn + 1), rfl, _, _, rfl, rfl, .inl ⟨by decide, by decide⟩, .inl ⟨_, _, rfl, rfl, .inl ⟨_, _, rfl, rfl, _, _, rfl, rfl, ⟨by decide, by decide, lt64 (by omega) (by omega)⟩, ?_⟩⟩⟩
    refine ⟨_, rfl, _, _, rfl, rfl, (by decide : (0 : Int) < 2147483629), ?_⟩
    generalize (x % 2147483563 + 40692 * (turn + 1) + 24681) ^ (3 : Int).toNat = y
    have b1 := Int.emod_nonneg y (b := 2147483629) (by decide)
    have b2 := Int.emod_lt_of_pos y (b := 2147483629) (by decide)
    refine ⟨.int (y % 2147483629), rfl, .int (turn + 1), rfl, _, _, rfl, rfl, .inl ⟨by decide, by decide⟩, .inl ⟨_, _, rfl, rfl, _, _, rfl, rfl, ⟨by decide, by decide, lt64 (by omega) (by omega)⟩, ?_⟩⟩
    refine ⟨_, rfl, _, _, rfl, rfl, (by decide : (0 : Int) < 2147483579), _, _, rfl, rfl, ⟨by decide, by decide⟩, _, rfl, .int size, rfl, _, _, rfl, rfl, hs, ?_⟩
    exact q _ _ (Int.emod_nonneg _ (by omega)) (Int.emod_lt_of_pos _ hs) d2
  refine rdSt rfl d1.gCells (neNil d1 d1.c fun p hp => ?_)
  have d2 : Dr H0 (upd H1 p (.lst [])) st L C large cells left (turn + 1) := d1.new hp
  cases cells with
  | nil =>
    simp only [decide_true, Bool.not_true, Bool.false_eq_true, if_false]
    exact rest 0 _ d2
  | cons c cs =>
    simp only [reduceCtorEq, decide_false, Bool.not_false, if_true]
    have hn : (0 : Int) < (((c :: cs).map V.int).length : Nat) := by simp
    refine rdSt rfl d2.gCells ⟨.int (turn + 1), rfl, _, rfl, ?_⟩
    refine rdSt rfl d2.gCells ⟨C, _, rfl, .inl d2.c, _, _, rfl, rfl, hn, ?_⟩
    have e1 := Int.emod_nonneg (turn + 1) (b := (((c :: cs).map V.int).length : Nat)) (by omega)
    have e2 := Int.emod_lt_of_pos (turn + 1) hn
    obtain ⟨j, hj⟩ : ∃ j : Nat, (turn + 1) % (((c :: cs).map V.int).length : Nat) = (j : Int) := ⟨_, (Int.toNat_of_nonneg e1).symm⟩
    show rIxS2 (.ref C) (.int ((turn + 1) % (((c :: cs).map V.int).length : Nat))) _ _
    rw [hj] at e2 ⊢
    have hlt : j < (c :: cs).length := by
      rw [List.length_map] at e2
      exact Int.ofNat_lt.mp e2
    refine ⟨C, (c :: cs).map V.int, j, .int ((c :: cs)[j]), rfl, rfl, .inl d2.c, ?_, ?_⟩
    · have hl2 : ((j : Int)) < (((c :: cs).map V.int).length : Nat) := e2
      unfold atI ixN
      rw [if_pos (by omega), if_pos hl2]
      show ((c :: cs).map V.int)[(j : Int).toNat]? = _
      rw [Int.toNat_natCast, List.getElem?_map, List.getElem?_eq_getElem hlt]
      rfl
    · exact rest _ _ d2
theorem draw_all {H : Hp} {large : List Int} {left turn : Int} (d : Dr H0 H st L C large cells left turn) (hl : large.length ≤ 100000) (hs : 0 < size) (hs2 : size ≤ 100000) (t0 : 0 ≤ turn) (t1 : turn < 10 ^ 9)
    (q : ∀ r H' large' left' turn', 0 ≤ r → r < size → Dr H0 H' st L C large' cells left' turn' → large'.length ≤ 100000 → turn ≤ turn' → turn' ≤ turn + 1 → D.rt (.int r) H') : tDraw K D [some (.ref st), some (.int size), none, none, none, none] H := by
  refine draw_while d hl rfl fun H1 lg lf hl1 d1 => ?_
  refine rdSt rfl d1.gLeft ⟨.int lf, .int 0, .int _, .int _, rfl, nofun, Nat.le_trans (Nat.min_le_right _ _) (by decide), _, rfl, ?_⟩
  cases fGt (.int lf) (.int 0) with
  | false =>
    simp only [Bool.false_eq_true, if_false]
    exact draw_turn d1 hs hs2 t0 t1 fun r H' h1 h2 d2 => q r H' lg lf _ h1 h2 d2 hl1 (by omega) (by omega)
  | true =>
    simp only [if_true]
    exact draw_left d1 hs hs2 fun r H' left' h1 h2 d2 => q r H' lg left' turn h1 h2 d2 hl1 (by omega) (by omega)
end
def ctDraw : Ct := fun args ow KQ _ => ∃ k t size, args = [.o k, .d (.int size)] ∧ ow[k]? = some (.st t) ∧ 0 < size ∧ size ≤ 100000 ∧ t < 10 ^ 9 ∧
  ∀ r : Nat, (r : Int) < size → KQ (.d (.int r)) (ow.set k (.st (t + 1)))
end DL
namespace DL
open PySem PySem.Spec PyProof.Rows L2
theorem FnG.weak {P : Program} {w : World} {K : PySem.W.Frag} {mg : Str → Option Value} {base : Heap} {gd : Bool} {k : Nat} {f : Addr} {fd : FuncData} {ps : List Str} {sp sp' : Sp} (F : FnG P w K mg base gd k f fd ps sp) (h : ∀ vs H Q E, sp' vs H Q E → sp vs H Q E) : FnG P w K mg base gd k f fd ps sp' :=
  ⟨fun vs H Q E z => F.len vs H Q E (h vs H Q E z), fun A outer s H args us vs Q E hr hgd e0 hb r z => F.run A outer s H args us vs Q E hr hgd e0 hb r (h vs H Q E z)⟩
theorem AOk.cellTo {a : AS} {σ : Sgm} {F H H' : Hp} {fps : List (List Addr)} (x : AOk a σ F H fps) {k : Nat} {fp : List Addr} {c : Own} (h : fps[k]? = some fp)
    (hk : ∀ b o, b ∉ fp → H b = some o → H' b = some o) (hc : OwnOk F H' fp c) (tp : ∀ b xs, H' b = some (.tup xs) → F b = some (.tup xs)) : AOk { a with ow := a.ow.set k c } σ F H' fps where
  sub := fun b o e => hk b o (fun m => by
    have z := x.nf b (List.mem_flatten.mpr ⟨fp, List.mem_of_getElem? h, m⟩)
    rw [e] at z; cases z) (x.sub b o e)
  nd := x.nd
  len := by show fps.length = (a.ow.set k c).length; rw [List.length_set]; exact x.len
  own := fun j fq c' e1 e2 => by
    have e2' : (a.ow.set k c)[j]? = some c' := e2
    by_cases hj : k = j
    · subst hj
      rw [h] at e1; cases e1
      rw [List.getElem?_set_self (by rw [← x.len]; exact (List.getElem?_eq_some_iff.mp h).1)] at e2'
      cases e2'
      exact hc
    · rw [List.getElem?_set_ne hj] at e2'
      exact (x.own j fq c' e1 e2').mono (Sub.refl F) fun p hp o e => hk p o (fun m => hj (cells_apart x h e1 m hp)) e
  nf := x.nf
  ln := x.ln
  sl := x.sl
  nn := by show a.n ≤ (a.ow.set k c).length; rw [List.length_set]; exact x.nn
  tp := tp
theorem le_cell {F H H' : Hp} {fps : List (List Addr)} {k : Nat} {fp : List Addr} (h : fps[k]? = some fp) (hk : ∀ b o, b ∉ fp → H b = some o → H' b = some o) (hx : ∀ b, H' b = none → H b = none) : Le F H fps.flatten F H' fps.flatten :=
  ⟨Sub.refl F, fun b o nb e => hk b o (fun m => nb (List.mem_flatten.mpr ⟨fp, List.mem_of_getElem? h, m⟩)) e, fun b e => .inl e, fun b e => .inl e, hx⟩
theorem draw_ct {vs : List V} {H : Hp} {Q : VK} {E : XK} (h : spOf 2 ctDraw vs H Q E) : spDraw vs H Q E := by
  obtain ⟨args, ow, F, fps, KQ, KB, hl, x, ⟨k, t, size, rfl, hk, h1, h2, h3, q⟩, q1, _⟩ := h
  have ln : vs.length = 2 := by
    have z := x.ln
    rw [List.length_map] at z
    exact z
  match vs, ln with
  | [v, u], _ =>
    obtain ⟨p, ps, e1, e2⟩ := x.sl 0 (.o k) rfl
    obtain ⟨u', e3, r3⟩ := x.sl 1 (.d (.int size)) rfl
    have e1' : v = .ref p := by cases e1; rfl
    have e3' : u = u' := by cases e3; rfl
    subst e1' e3'
    have eu : u = .int size := by cases r3; rfl
    subst eu
    obtain ⟨s0, L, ep, C, large, cells, left, turn, g1, g2, g3, g4, g5, g6⟩ := own_at x e2 hk
    cases ep
    have fs0 : F p = none := x.nf p (List.mem_flatten.mpr ⟨_, List.mem_of_getElem? e2, by simp⟩)
    have fl0 : F L = none := x.nf L (List.mem_flatten.mpr ⟨_, List.mem_of_getElem? e2, by simp⟩)
    have n1 : p ≠ L := fun z => by rw [z, g2] at g1; cases g1
    have n2 : p ≠ C := fun z => by rw [z, g3] at fs0; cases fs0
    have n3 : L ≠ C := fun z => by rw [z, g3] at fl0; cases fl0
    have d0 : Dr H H p L C large cells left turn := ⟨⟨g1, g2, x.sub _ _ g3, n1, n2, n3, fun _ _ _ _ e => e, fun _ e => e⟩, fun _ _ e => e⟩
    refine ⟨p, L, C, large, cells, left, turn, size, rfl, d0, h1, h2, g4, by omega, g6, fun r H' large' left' turn' r0 r1 d' hl' t0 t1 => ?_⟩
    have hk' : ∀ b o, b ∉ [p, L] → H b = some o → H' b = some o := fun b o nb e => d'.k b o (fun z => nb (by simp [z])) (fun z => nb (by simp [z])) e
    have oc : OwnOk F H' [p, L] (.st (t + 1)) := ⟨p, L, rfl, C, large', cells, left', turn', d'.s, d'.l, g3, by omega, by omega, hl'⟩
    obtain ⟨rn, rfl⟩ : ∃ rn : Nat, r = (rn : Int) := ⟨r.toNat, (Int.toNat_of_nonneg r0).symm⟩
    have cells0 : AOk ⟨[], ow, 0⟩ [] F H fps := ⟨x.sub, x.nd, x.len, x.own, x.nf, rfl, fun i s e => by simp at e, Nat.zero_le _, x.tp⟩
    exact q1 _ _ (.int rn) F H' (q rn r1) (cells0.cellTo e2 hk' oc fun b xs e => x.tp b xs (d'.t b xs e)) (le_cell e2 hk' d'.x) (.int _) trivial
end DL
namespace DL
open PySem PySem.Spec PyProof.Rows L2
def Lkd (H : Hp) (p : Addr) (od : Obj) : HO → Prop
  | .dK ks => (p == sysModules) = false ∧ LkO od (ks.map fun k => kV k.1) (ks.map (·.2))
  | .ext φ => ∃ h : Heap, φ h ∧ h.get? p = some od
  | .dT ks => (p == sysModules) = false ∧ ∃ qs, LkO od qs (ks.map (·.2)) ∧ Paired (fun (q : V) (k : List Key × V) => ∃ b, q = V.ref b ∧ H b = some (.tup (k.1.map kV))) qs ks
  | _ => True
theorem lkd_of {P : Program} {w : World} {H : Hp} {h : Heap} {p : Addr} {od : Obj} {u : HO} (g : h.get? p = some od) (x : ObjOk P w H h p u) : Lkd H p od u := by
  cases u with
  | dK ks =>
    obtain ⟨z, y, vs, kv, o, es, ep, e, ex, d, _, pr, _⟩ := x
    rw [g] at e; cases e
    refine ⟨y, ex, es, ep, d, ?_, ?_⟩
    · have go : ∀ {es : List DictEntry} {ks : List (Key × V)} {vs : List (Key × Value)}, KV ks vs → Pairs (mixKind P w) es vs → Vals (ks.map fun k => kV k.1) (es.map (·.key)) := by
        intro es ks vs kv
        induction kv generalizing es with
        | nil => intro pr; cases pr; exact .nil
        | cons r _ ih =>
          intro pr
          cases pr with
          | cons h1 h2 pr => exact .cons (by
            have e := r.1
            show RelV (kV _) _
            rw [e]; exact relV_key h1) (ih pr)
      exact go kv pr
    · rw [pairs_vals pr]; exact kv_vals kv
  | dT ks =>
    obtain ⟨z, y, xs, pr, o, es, ep, e, ex, d, el, _⟩ := x
    rw [g] at e; cases e
    refine ⟨y, xs.map fun x => V.ref x.2.1, ⟨ex, es, ep, d, ?_, ?_⟩, ?_⟩
    · rw [el, List.map_map]
      have go : ∀ xs : List (List Key × Addr × Value), Vals (xs.map fun x => V.ref x.2.1) (xs.map ((fun e : DictEntry => e.key) ∘ entryOfKey (tupleKind (mixKind P w)))) := by
        intro xs
        induction xs with
        | nil => exact .nil
        | cons x xs ih => exact .cons rfl ih
      exact go xs
    · rw [el, List.map_map]
      have go : ∀ {ks : List (List Key × V)} {xs : List (List Key × Addr × Value)}, KT H ks xs → Vals (ks.map (·.2)) (xs.map ((fun e : DictEntry => e.val) ∘ entryOfKey (tupleKind (mixKind P w)))) := by
        intro ks xs h
        induction h with
        | nil => exact .nil
        | cons r _ ih => exact .cons r.2.2 ih
      exact go pr
    · have go : ∀ {ks : List (List Key × V)} {xs : List (List Key × Addr × Value)}, KT H ks xs → Paired (fun (q : V) (k : List Key × V) => ∃ b, q = V.ref b ∧ H b = some (.tup (k.1.map kV))) (xs.map fun x => V.ref x.2.1) ks := by
        intro ks xs h
        induction h with
        | nil => exact .nil
        | cons r _ ih => exact .cons ⟨_, rfl, r.2.1⟩ ih
      exact go pr
  | ext φ => exact ⟨h, x.1, g⟩
  | _ => trivial
theorem lockK {X : Cx} {pins : List (Addr × Obj)} {σ : L2.St} {H : Hp} {s : Shared} {p : Addr} {u : HO} (I : L2.Inv X pins σ H s) (h : H p = some u) (mu : Mut (some u)) : ∃ od, L2.Inv X pins σ (upd H p (.frz od u)) s ∧ Lkd H p od u := by
  obtain ⟨od, I2⟩ := I.lock h mu
  obtain ⟨g, _⟩ := I2.hok p _ upd_same
  exact ⟨od, I2, lkd_of g (I.hok p u h)⟩
def tLk (te : TE) : TE := fun σ H Q => te σ H fun v H1 => ∃ p u, v = .ref p ∧ H1 p = some u ∧ Mut (some u) ∧ ∀ od, Lkd H1 p od u → Q v (upd H1 p (.frz od u))
theorem pe_lk {X : Cx} {e : Expr} {te : TE} (h : PE X e te) : PE X e (tLk te) := ⟨fun pins s σ H Q I hq => by
  refine thn (h.run pins s σ H _ I hq) fun u s1 ⟨x, H1, I1, rx, p, o, e1, e2, mu, q⟩ => ?_
  obtain ⟨od, I2, lk⟩ := lockK I1 e2 mu
  exact ⟨x, _, I2, rx, q od lk⟩⟩
section
variable {a : AS} {σ : Sgm} {F H : Hp} {fps : List (List Addr)}
theorem AOk.relock {p : Addr} {o : HO} (x : AOk a σ F H fps) (hf : F p = none) (hn : p ∉ fps.flatten) : AOk a σ (upd F p o) (upd H p o) fps where
  sub := fun b u e => by
    by_cases hb : b = p
    · subst hb; rw [upd_same] at e ⊢; exact e
    · rw [upd_ne hb] at e ⊢; exact x.sub b u e
  nd := x.nd
  len := x.len
  own := fun k fp c e1 e2 => (x.own k fp c e1 e2).mono (Sub.put hf) fun q hq u e => by
    rw [upd_ne (fun z => hn (by rw [← z]; exact flat_mem e1 hq))]; exact e
  nf := fun q hq => by rw [upd_ne (fun z => hn (by rw [← z]; exact hq))]; exact x.nf q hq
  ln := x.ln
  sl := fun i s e => (x.sl i s e).mono (Sub.put hf)
  nn := x.nn
  tp := fun b xs e => by
    by_cases hb : b = p
    · subst hb; rw [upd_same] at e ⊢; exact e
    · rw [upd_ne hb] at e ⊢; exact x.tp b xs e
theorem Le.relock {F1 H1 : Hp} {P P1 : List Addr} {p : Addr} {o : HO} (l : Le F H P F1 H1 P1) (h0 : H p = none) (hf : F1 p = none) : Le F H P (upd F1 p o) (upd H1 p o) P1 :=
  ⟨l.fr.trans (Sub.put hf), fun b u n e => by rw [upd_ne (fun z => by rw [z, h0] at e; cases e)]; exact l.hp b u n e, fun b e => by
    by_cases hb : b = p
    · subst hb; exact .inr (.inl h0)
    · rw [upd_ne hb] at e; exact l.nw b e, l.pw, fun b e => by
    by_cases hb : b = p
    · subst hb; exact h0
    · rw [upd_ne hb] at e; exact l.ex b e⟩
end
theorem keys_rep {F H : Hp} {p : Addr} {o : HO} (hf : F p = none) (tp : ∀ b xs, H b = some (.tup xs) → F b = some (.tup xs)) : ∀ {qs : List V} {ks : List (List Key × V)}, Paired (fun (q : V) (k : List Key × V) => ∃ b, q = V.ref b ∧ H b = some (.tup (k.1.map kV))) qs ks →
    RepAll (upd F p o) qs (ks.map fun k => PyData.tuple (k.1.map keyD)) := by
  intro qs ks h
  induction h with
  | nil => exact .nil
  | @cons q k _ _ r _ ih =>
    obtain ⟨b, rfl, e⟩ := r
    refine .cons ?_ ih
    have go : ∀ (G : Hp) (k : List Key), RepAll G (k.map kV) (k.map keyD) := by
      intro G k
      induction k with
      | nil => exact .nil
      | cons x _ ih =>
        refine .cons ?_ ih
        cases x with
        | inl i => exact .int i
        | inr y => exact .str y
    exact .tup (Sub.put hf _ _ (tp _ _ e)) (go _ _)
theorem dc_lock {F H : Hp} {p : Addr} {kvs : List (D × D)} (d : DcOk F H p kvs) (hf : F p = none) (tp : ∀ b xs, H b = some (.tup xs) → F b = some (.tup xs)) : ∃ u, H p = some u ∧ Mut (some u) ∧ ∀ od, Lkd H p od u → Rep (upd F p (.frz od u)) (.ref p) (.dict kvs) := by
  rcases d with ⟨ks, e, k, r⟩ | ⟨ks, e, k, r⟩ | ⟨φ, ks, vs, e, k, z, r, q⟩
  · exact ⟨_, e, trivial, fun od lk => .dct upd_same lk.1 lk.2 k (r.mono (Sub.put hf))⟩
  · refine ⟨_, e, trivial, fun od lk => ?_⟩
    obtain ⟨y, qs, lk, pr⟩ := lk
    exact .dctT upd_same y lk k (by rw [k]; exact keys_rep hf tp pr) (r.mono (Sub.put hf))
  · refine ⟨_, e, trivial, fun od lk => ?_⟩
    obtain ⟨h, p1, p2⟩ := lk
    obtain ⟨y, l⟩ := k h od p1 p2
    exact .dctR upd_same y l z (r.mono (Sub.put hf)) (q.mono (Sub.put hf))
def wLk (we : WE) : WE := fun a K B => we a (fun r a1 => ∃ kvs, r = .nd kvs ∧ K (.d (.dict kvs)) a1) B
theorem snd_lk {E : XK} {te : TE} {we : WE} (h : SndE E te we) : SndE E (tLk te) (wLk we) := by
  intro a K B k σ F H fps x Q q b
  refine h a _ B k σ F H fps x _ (fun r1 a1 v1 F1 H1 ⟨kvs, er, k1⟩ n1 x1 l1 o1 w1 => ?_) b
  subst er
  obtain ⟨p, rfl, d, hf, hn⟩ := o1
  obtain ⟨u, e, mu, rp⟩ := dc_lock d hf x1.tp
  have h0 : H p = none := w1 p rfl
  exact ⟨p, u, rfl, e, mu, fun od lk => q (.d (.dict kvs)) a1 _ _ _ k1 n1 (x1.relock hf hn) (l1.relock h0 hf) (rp od lk) trivial⟩
theorem de_lk {X : Cx} {E : XK} {e : Expr} {te : TE} {we : WE} (h : DE X E e te we) : DE X E e (tLk te) (wLk we) := ⟨pe_lk h.pe, snd_lk h.so⟩
theorem at_slot0 {σ : Sgm} {i : Nat} {v : V} (h : σ[i]?.join = some v) : σ[i]? = some (some v) := by
  cases e : σ[i]? with
  | none => rw [e] at h; cases h
  | some o => cases o with
    | none => rw [e] at h; cases h
    | some u => rw [e] at h; cases h; rfl
def tLkS (i : Nat) (ts : TS) : TS := fun D σ H => ∃ p u, σ[i]? = some (some (.ref p)) ∧ H p = some u ∧ Mut (some u) ∧ ∀ od, Lkd H p od u → ts D σ (upd H p (.frz od u))
theorem pss_lk {X : Cx} {sts : List Stmt} {ts : TS} (i : Nat) (h : PSs X sts ts) : PSs X sts (tLkS i ts) := ⟨fun pins s σ H D I hq => by
  obtain ⟨p, u, _, e2, mu, q⟩ := hq
  obtain ⟨od, I2, lk⟩ := lockK I e2 mu
  exact h.run pins s σ _ D I2 (q od lk)⟩
def wLkS (i : Nat) (w : WS) : WS := fun a D => ∃ k kvs, a.sl[i]? = some (.o k) ∧ a.ow[k]? = some (.dc kvs) ∧ a.n ≤ k ∧ (∀ j s, a.sl[j]? = some s → j ≠ i → wFrz.noCell k s = true) ∧ w { a with sl := a.sl.set i (.d (.dict kvs)), ow := a.ow.set k .gone } D
theorem snd_lkS {E : XK} {i : Nat} {ts : TS} {w : WS} (h : SndS E ts w) : SndS E (tLkS i ts) (wLkS i w) := by
  intro a A k σ F H fps x D en
  obtain ⟨j, kvs, e1, e2, hn, hno, kk⟩ := k
  have z := x.sl i _ e1
  obtain ⟨p, ps, s1, s2⟩ := z
  have ho := x.own j _ _ s2 e2
  obtain ⟨p', ep, hu⟩ := ho
  cases ep
  have hm : p ∈ fps.flatten := flat_mem s2 (by simp)
  have hf := x.nf p hm
  obtain ⟨u, hp, mu, rp⟩ := dc_lock hu hf x.tp
  have hl : j < fps.length := (List.getElem?_eq_some_iff.mp s2).1
  have sub : ∀ q, q ∈ (fps.set j []).flatten → q ∈ fps.flatten ∧ q ≠ p := fun q hq => by
    obtain ⟨l, hl2, hm2⟩ := List.mem_flatten.mp hq
    obtain ⟨m, hm3⟩ := List.mem_iff_getElem?.mp hl2
    by_cases hmj : j = m
    · subst hmj
      rw [List.getElem?_set_self hl] at hm3
      cases hm3
      simp at hm2
    · rw [List.getElem?_set_ne hmj] at hm3
      exact ⟨flat_mem hm3 hm2, fun e => hmj (cells_apart x s2 hm3 (by simp [e]) hm2)⟩
  have nd : (fps.set j []).flatten.Nodup := by
    have go : ∀ (l : List (List Addr)) (j : Nat), l.flatten.Nodup → (l.set j []).flatten.Nodup := by
      intro l
      induction l with
      | nil => intro j h; simpa using h
      | cons z zs ih =>
        intro j h
        rw [List.flatten_cons] at h
        obtain ⟨h1, h2, h3⟩ := List.nodup_append.mp h
        cases j with
        | zero => simpa using h2
        | succ j =>
          rw [List.set_cons_succ, List.flatten_cons]
          refine List.nodup_append.mpr ⟨h1, ih j h2, fun q hq r hr => h3 q hq r ?_⟩
          obtain ⟨l, hl, hm⟩ := List.mem_flatten.mp hr
          rcases List.mem_or_eq_of_mem_set hl with e | e
          · exact List.mem_flatten.mpr ⟨l, e, hm⟩
          · subst e; simp at hm
    exact go fps j x.nd
  refine ⟨p, u, at_slot0 s1, hp, mu, fun od lk => ?_⟩
  have x2 : AOk { a with sl := a.sl.set i (.d (.dict kvs)), ow := a.ow.set j .gone } σ (upd F p (.frz od u)) (upd H p (.frz od u)) (fps.set j []) := by
    refine ⟨fun b o e => ?_, nd, by rw [List.length_set, List.length_set]; exact x.len, fun m fp c f1 f2 => ?_, fun q hq => ?_, by rw [List.length_set]; exact x.ln, fun m s f1 => ?_, by rw [List.length_set]; exact x.nn, fun b us e => ?_⟩
    · by_cases hb : b = p
      · subst hb; rw [upd_same] at e ⊢; exact e
      · rw [upd_ne hb] at e ⊢; exact x.sub b o e
    · have f2' : (a.ow.set j .gone)[m]? = some c := f2
      by_cases hj : j = m
      · subst hj
        rw [List.getElem?_set_self hl] at f1
        rw [List.getElem?_set_self (by rw [← x.len]; exact hl)] at f2'
        cases f1; cases f2'
        rfl
      · rw [List.getElem?_set_ne hj] at f1 f2'
        refine (x.own m fp c f1 f2').mono (Sub.put hf) fun q hq o e => ?_
        have hne : q ≠ p := fun z => hj (cells_apart x (p := p) s2 f1 (by simp) (z ▸ hq))
        rw [upd_ne hne]
        exact e
    · obtain ⟨q1, q2⟩ := sub q hq
      rw [upd_ne q2]
      exact x.nf q q1
    · have f1' : (a.sl.set i (.d (.dict kvs)))[m]? = some s := f1
      by_cases hi : i = m
      · subst hi
        rw [List.getElem?_set_self (List.getElem?_eq_some_iff.mp e1).1] at f1'
        cases f1'
        exact ⟨.ref p, s1, rp od lk⟩
      · rw [List.getElem?_set_ne hi] at f1'
        have y := x.sl m s f1'
        have ny := hno m s f1' (Ne.symm hi)
        cases s with
        | un => trivial
        | d w => exact SlOk.mono (s := .d w) (Sub.put hf) y
        | v w => exact y
        | sc K0 ns => exact SlOk.mono (s := .sc K0 ns) (Sub.put hf) y
        | er w => exact SlOk.mono (s := .er w) (Sub.put hf) y
        | px w => exact SlOk.mono (s := .px w) (Sub.put hf) y
        | o k2 =>
          obtain ⟨q, qs, y1, y2⟩ := y
          have : k2 ≠ j := by
            unfold wFrz.noCell at ny
            simpa using ny
          exact ⟨q, qs, y1, by rw [List.getElem?_set_ne (Ne.symm this)]; exact y2⟩
    · by_cases hb : b = p
      · subst hb; rw [upd_same] at e; cases e
      · rw [upd_ne hb] at e ⊢; exact x.tp b us e
  refine h _ A kk σ _ _ (fps.set j []) x2 D ?_
  refine en.le ⟨Sub.put hf, fun b o nb e => ?_, fun b z => ?_, fun b z => .inl (sub b z).1, fun b z => ?_⟩ ?_
  · rw [upd_ne (fun z => nb (by rw [z]; exact hm))]; exact e
  · by_cases hb : b = p
    · subst hb; exact .inr (.inr hm)
    · rw [upd_ne hb] at z; exact .inl z
  · by_cases hb : b = p
    · subst hb; rw [upd_same] at z; cases z
    · rw [upd_ne hb] at z; exact z
  · apply List.ext_getElem?
    intro m
    rw [List.getElem?_take, List.getElem?_take]
    split
    · rename_i hlt
      have hlt : m < a.n := hlt
      rw [List.getElem?_set_ne (by omega)]
    · rfl
theorem dss_lk {X : Cx} {E : XK} {sts : List Stmt} {ts : TS} {w : WS} (i : Nat) (h : DSs X E sts ts w) : DSs X E sts (tLkS i ts) (wLkS i w) := ⟨pss_lk i h.ps, snd_lkS h.so⟩
end DL
namespace DL
open PySem PySem.Spec PyProof.Rows L2
section
variable {X : Cx} {E : XK} {pos p1 p2 : Pos} {e : Expr} {te : TE} {we : WE}
def wDict0 : WE := fun a K _ => K (.nd []) a
theorem de_dict0 : DE X E (.Dict [] [] pos) tDNewK wDict0 := ⟨pe_dnewK, fun a K B k σ F H fps x Q q _ p hp =>
  q _ a _ F _ k rfl (x.newH hp) (Le.newH hp) ⟨p, rfl, .inl ⟨[], upd_same, rfl, .nil⟩, x.sub.gone hp, x.fresh hp⟩ fun p' e' => by cases e'; exact hp⟩
def wDict1 (k : Int) (v : Int) : WE := fun a K _ => K (.nd [(.int k, .int v)]) a
theorem de_dict1 {k v : Int} {j l : Nat} : DE X E (.Dict [some (.Constant (.int k) j p1)] [.Constant (.int v) l p2] pos) (tDisp [(tC (.int k), tC (.int v))]) (wDict1 k v) :=
  ⟨pe_disp (pps_cons pe_int pe_int pps_nil) rfl rfl (fun z => by cases z) (by show 1 ≤ 15; decide), fun a K B h σ F H fps x Q q _ p hp => by
    refine ⟨upd_same, [(Sum.inl k, .int v)], rfl, by show 1 ≤ 15; decide, ?_⟩
    rw [upd_twice]
    exact q _ a _ F _ h rfl (x.newH hp) (Le.newH hp) ⟨p, rfl, .inl ⟨[(Sum.inl k, .int v)], upd_same, rfl, .cons (.int v) .nil⟩, x.sub.gone hp, x.fresh hp⟩ fun p' e' => by cases e'; exact hp⟩
end
def spBegun (K0 : PySem.W.Frag) : Sp := fun vs H Q _ => ∃ (p : Addr) (ns : List Int), vs = [.ref p] ∧ Lk K0 ns H p ∧ ns.length ≤ 100000 ∧
  ∀ (st L C : Addr) (H' : Hp) (large cells : List Int), H st = none → H L = none → H C = none → Dr0 H H' st L C large cells 0 0 → large.length ≤ 100000 → Q (.ref st) H'
theorem AOk.addPair {a : AS} {σ : Sgm} {F H : Hp} {fps : List (List Addr)} (x : AOk a σ F H fps) {p q : Addr} {c : Own} (h : OwnOk F H [p, q] c) (hp : F p = none) (hq : F q = none) (np : p ∉ fps.flatten) (nq : q ∉ fps.flatten) (pq : p ≠ q) :
    AOk { a with ow := a.ow ++ [c] } σ F H (fps ++ [[p, q]]) where
  sub := x.sub
  nd := by
    rw [List.flatten_append]
    simp only [List.flatten_cons, List.flatten_nil, List.append_nil]
    refine List.nodup_append.mpr ⟨x.nd, by simp [pq], fun u hu v hv z => ?_⟩
    rcases (by simpa using hv : v = p ∨ v = q) with e | e
    · exact np (by rw [← e, ← z]; exact hu)
    · exact nq (by rw [← e, ← z]; exact hu)
  len := by rw [List.length_append, List.length_append, x.len]; rfl
  own := fun k fp c' e1 e2 => by
    have e2' : (a.ow ++ [c])[k]? = some c' := e2
    by_cases hk : k < fps.length
    · rw [List.getElem?_append_left hk] at e1
      rw [List.getElem?_append_left (by rw [← x.len]; exact hk)] at e2'
      exact x.own k fp c' e1 e2'
    · rw [List.getElem?_append_right (by omega)] at e1
      rw [List.getElem?_append_right (by rw [← x.len]; omega)] at e2'
      rw [← x.len] at e2'
      cases hz : k - fps.length with
      | zero => rw [hz] at e1 e2'; cases e1; cases e2'; exact h
      | succ m => rw [hz] at e1; simp at e1
  nf := fun r hr => by
    rw [List.flatten_append] at hr
    rcases List.mem_append.mp hr with z | z
    · exact x.nf r z
    · rcases (by simpa using z : r = p ∨ r = q) with e | e
      · rw [e]; exact hp
      · rw [e]; exact hq
  ln := x.ln
  sl := fun i s e => by
    have z := x.sl i s e
    cases s with
    | un => trivial
    | d y => exact z
    | v y => exact z
    | sc _ _ => exact z
    | er _ => exact z
    | px _ => exact z
    | o k =>
      obtain ⟨r, rs, e1, e2⟩ := z
      exact ⟨r, rs, e1, by rw [List.getElem?_append_left (List.getElem?_eq_some_iff.mp e2).1]; exact e2⟩
  nn := by
    have := x.nn
    show a.n ≤ (a.ow ++ [c]).length
    rw [List.length_append]
    omega
  tp := x.tp
def wBegun (K0 : PySem.W.Frag) (i j : Nat) : WS := fun a D => ∃ ns : List Int, a.sl[i]? = some (.sc K0 ns) ∧ ns.length ≤ 100000 ∧ D.nx { a with sl := a.sl.set j (.o a.ow.length), ow := a.ow ++ [.st 0] }
theorem snd_begun {K0 : PySem.W.Frag} {E : XK} {i j : Nat} : SndS E (tAsg (tCallG (spBegun K0) E (tCons (tVar i) tNil)) (gName j)) (wBegun K0 i j) := by
  intro a A k σ F H fps x D en
  obtain ⟨ns, e1, hl, k⟩ := k
  obtain ⟨p, e2, r⟩ := x.sl i _ e1
  have e3 : σ[i]? = some (some (.ref p)) := by
    cases h : σ[i]? with
    | none => rw [h] at e2; cases e2
    | some o => rw [h] at e2; cases o with
      | none => cases e2
      | some u => cases e2; rfl
  · refine ⟨_, e3, p, ns, rfl, r.mono x.sub, hl, fun s0 L C H' large cells h1 h2 h3 d hl' => ?_⟩
    have keepH : ∀ b o, H b = some o → H' b = some o := fun b o e => d.k b o (fun z => by rw [z, h1] at e; cases e) (fun z => by rw [z, h2] at e; cases e) e
    have fs0 : F s0 = none := x.sub.gone h1
    have fl0 : F L = none := x.sub.gone h2
    have fc0 : F C = none := x.sub.gone h3
    obtain ⟨F', sf, hF, nw, sub', tp'⟩ : ∃ F' : Hp, Sub F F' ∧ F' C = some (.lst (cells.map V.int)) ∧ (∀ b, F' b ≠ none → F b ≠ none ∨ (H b = none ∧ (b = C ∨ ∃ xs, H' b = some (.tup xs)))) ∧ Sub F' H' ∧ ∀ b xs, H' b = some (.tup xs) → F' b = some (.tup xs) := by
      let F' : Hp := fun b => match F b with
        | some o => some o
        | none => if H b = none then (if b = C then some (.lst (cells.map V.int)) else match H' b with | some (.tup xs) => some (.tup xs) | _ => none) else none
      have e1 : ∀ b o, F b = some o → F' b = some o := fun b o e => by show (match F b with | some o => some o | none => _) = _; rw [e]
      have e2 : ∀ b, F b = none → F' b = if H b = none then (if b = C then some (.lst (cells.map V.int)) else match H' b with | some (.tup xs) => some (.tup xs) | _ => none) else none := fun b e => by show (match F b with | some o => some o | none => _) = _; rw [e]
      refine ⟨F', e1, ?_, fun b e => ?_, fun b o e => ?_, fun b xs e => ?_⟩
      · rw [e2 C fc0, if_pos h3, if_pos rfl]
      · cases hF : F b with
        | some o => exact .inl (by simp)
        | none =>
          rw [e2 b hF] at e
          by_cases hH : H b = none
          · rw [if_pos hH] at e
            by_cases hb : b = C
            · exact .inr ⟨hH, .inl hb⟩
            · rw [if_neg hb] at e
              refine .inr ⟨hH, .inr ?_⟩
              split at e
              · next xs hx => exact ⟨xs, hx⟩
              · exact absurd rfl e
          · rw [if_neg hH] at e; exact absurd rfl e
      · cases hF : F b with
        | some u => rw [e1 b u hF] at e; cases e; exact keepH b _ (x.sub b _ hF)
        | none =>
          rw [e2 b hF] at e
          by_cases hH : H b = none
          · rw [if_pos hH] at e
            by_cases hb : b = C
            · rw [if_pos hb] at e; cases e; rw [hb]; exact d.c
            · rw [if_neg hb] at e
              split at e
              · next xs hx => cases e; exact hx
              · cases e
          · rw [if_neg hH] at e; cases e
      · cases hF : F b with
        | some u =>
          have := keepH b _ (x.sub b _ hF)
          rw [e] at this; cases this
          exact e1 b _ hF
        | none =>
          rw [e2 b hF]
          cases hH : H b with
          | some o =>
            have := keepH b _ hH
            rw [e] at this; cases this
            rw [x.tp b xs hH] at hF; cases hF
          | none =>
            rw [if_pos rfl]
            by_cases hb : b = C
            · subst hb
              have := d.c
              rw [e] at this; cases this
            · rw [if_neg hb, e]
    have none' : ∀ b, F b = none → H b ≠ none → F' b = none := fun b e1 e2 => by
      cases e : F' b with
      | none => rfl
      | some o =>
        rcases nw b (by rw [e]; simp) with z | z
        · exact absurd e1 z
        · exact absurd z.1 e2
    have noneC : ∀ b, F b = none → b ≠ C → (∀ xs, H' b ≠ some (.tup xs)) → F' b = none := fun b e1 e2 e3 => by
      cases e : F' b with
      | none => rfl
      | some o =>
        rcases nw b (by rw [e]; simp) with z | z
        · exact absurd e1 z
        · rcases z.2 with z | ⟨xs, z⟩
          · exact absurd z e2
          · exact absurd z (e3 xs)
    have x1 : AOk a σ F' H' fps := ⟨sub', x.nd, x.len, fun k' fp c e1 e2 => (x.own k' fp c e1 e2).mono sf fun p' hp' o e => keepH p' o e, fun p' hp' =>
      none' p' (x.nf p' hp') (by obtain ⟨o, ho⟩ := x.there p' hp'; rw [ho]; simp), x.ln, fun i' s' e => (x.sl i' s' e).mono sf, x.nn, tp'⟩
    have oc : OwnOk F' H' [s0, L] (.st 0) := ⟨s0, L, rfl, C, large, cells, 0, 0, d.s, d.l, hF, by decide, by decide, hl'⟩
    have x2 := (x1.addPair oc (noneC _ fs0 d.sC fun xs z => by have := d.s; rw [z] at this; cases this) (noneC _ fl0 d.LC fun xs z => by have := d.l; rw [z] at this; cases this) (x.fresh h1) (x.fresh h2) d.sL).setSlot (i := j) (s := .o a.ow.length) (v := .ref s0) ⟨s0, [L], rfl, by rw [← x.len]; simp⟩
    refine en.nx _ _ _ H' (fps ++ [[s0, L]]) k x2 ⟨sf, fun b o _ e => keepH b o e, fun b e => ?_, fun b m => ?_, d.x⟩ (List.take_append_of_le_length (by rw [x.len]; exact x.nn)) rfl
    · exact (nw b e).imp id fun z => .inl z.1
    · rw [List.flatten_append] at m
      rcases List.mem_append.mp m with z | z
      · exact .inl z
      · rcases (by simpa using z : b = s0 ∨ b = L) with q | q
        · rw [q]; exact .inr h1
        · rw [q]; exact .inr h2
end DL
namespace DL
open PySem PySem.Spec PyProof.Rows L2
abbrev absI : Int → Int := fun i => if i < 0 then -i else i
abbrev w18 : WE := wOp2 (gI CPow fun i j => i ^ j.toNat) (wC (.d (.int 10))) (wC (.d (.int 18)))
def wiScr (K0 : PySem.W.Frag) (i : Nat) : WI := fun a K _ => ∃ ns, a.sl[i]? = some (.sc K0 ns) ∧ K (ns.map PyData.int) a
theorem src_scr {K : PySem.W.Frag} {F : Hp} {p : Addr} {ns : List Int} (h : Lk K ns F p) : SrcOk (Itl K p) F (ns.map PyData.int) where
  go := fun i H s hi => by
    rw [List.length_map] at hi
    exact ⟨_, V.int ns[i], (h.mono s).sq, by simp [hi]⟩
  stop := fun i H s hi => ⟨_, (h.mono s).sq, by simpa using hi⟩
  yld := fun i H v H' F1 s1 s2 y d hd => by
    obtain ⟨e, y⟩ := y
    subst e
    have e1 := y _ (h.mono (s1.trans s2)).sq
    rw [List.getElem?_map] at e1 hd
    cases e : ns[i]? with
    | none => rw [e] at hd; cases hd
    | some n => rw [e] at e1 hd; cases e1; cases hd; exact .inl ⟨rfl, .int n⟩
theorem sc_slot {a : AS} {σ : Sgm} {F H : Hp} {fps : List (List Addr)} (x : AOk a σ F H fps) {i : Nat} {K0 : PySem.W.Frag} {ns : List Int} (e : a.sl[i]? = some (.sc K0 ns)) : ∃ p, σ[i]? = some (some (.ref p)) ∧ Lk K0 ns F p := by
  obtain ⟨p, e2, r⟩ := x.sl i _ e
  refine ⟨p, ?_, r⟩
  cases h : σ[i]? with
  | none => rw [h] at e2; cases e2
  | some o => rw [h] at e2; cases o with
    | none => cases e2
    | some u => cases e2; rfl
theorem di_scr {X : Cx} {E : XK} {tg : Expr} {pos : Pos} (i : Nat) {x : Str} (hN : X.N[i]? = some x := by rfl) (hv : Vis X.env.scope x := by first | exact Or.inl rfl | exact Or.inr (Or.inl rfl) | exact Or.inr (Or.inr rfl)) (hd : (x == ("__debug__" : Str)) = false := by decide)
    (hcd : (x == ("__classdict__" : Str)) = false := by decide) : DI X E tg (.Name x pos) (iList X.K (tVar i)) (wiScr X.K i) := ⟨pi_list (pe_var hN hv hd hcd), by
  intro a K B k σ F H fps y R q b
  obtain ⟨ns, e, k⟩ := k
  obtain ⟨p, e2, r⟩ := sc_slot y e
  exact ⟨_, e2, p, rfl, ⟨_, (r.mono y.sub).sq⟩, q _ a F H _ k rfl y (Le.refl _ _ _) (src_scr r)⟩⟩
def wLenScr (K0 : PySem.W.Frag) (i : Nat) : WE := fun a K _ => ∃ ns, a.sl[i]? = some (.sc K0 ns) ∧ K (.d (.int (ns.length : Nat))) a
def rLenScr (K : PySem.W.Frag) : List V → Hp → VK → Prop := fun xs H Q => ∃ p ys, xs = [.ref p] ∧ (SqL K H p ys ∨ SqT K H p ys) ∧ Q (.int ys.length) H
theorem de_lenScr {X : Cx} {E : XK} {p pos pos2 : Pos} (i : Nat) {x : Str} (hg : Gl X "len") (hm : X.mg "len" = none) (hN : X.N[i]? = some x := by rfl) (hv : Vis X.env.scope x := by first | exact Or.inl rfl | exact Or.inr (Or.inl rfl) | exact Or.inr (Or.inr rfl)) (hd : (x == ("__debug__" : Str)) = false := by decide)
    (hcd : (x == ("__classdict__" : Str)) = false := by decide) (he : starEach [Expr.Name x pos2] X.env = (false, eval (Expr.Name x pos2) X.env) :: starEach [] X.env := by rfl) (hpl : (backTo pos (starEach [] X.env)).any (·.1) = false := by rfl) :
    DE X E (.Call (.Name "len" p) [.Name x pos2] [] pos) (tCB (rLenScr X.K) (tCons (tVar i) tNil)) (wLenScr X.K i) :=
  ⟨pe_callB call_len_seq hg hm (by decide +kernel) (pa_cons (pe_var hN hv hd hcd) pa_nil he) (by decide) (by decide) he hpl, by
  intro a K B k σ F H fps y Q q b
  obtain ⟨ns, e, k⟩ := k
  obtain ⟨p, e2, r⟩ := sc_slot y e
  refine ⟨_, e2, p, ns.map V.int, rfl, .inl (r.mono y.sub).sq, ?_⟩
  rw [List.length_map]
  exact q _ a _ F H k rfl y (Le.refl _ _ _) (.int _) trivial⟩
abbrev wBeg1 (K0 : PySem.W.Frag) : WS := wSet 1 (wLc (wiScr K0 0) (wgName 3) wYes (wCB (gI1 absI) (wCons (wVar 3) wNil)) [3])
abbrev wBeg2 : WS := wSetO 2 (wLc (wiSeq (wVar 1)) (wgName 3) (wTst (wOp2 (gLt fGe) (wVar 3) w18)) (wOp2 (gI (fun _ _ => True) fun i j => i - j) (wVar 3) w18) [3])
theorem merge4 (L C : Addr) : mergeK [] [(kL, V.ref L), (kC, V.ref C), (kF, V.int 0), (kT, V.int 0)] = stK L C 0 0 := by
  show putK (putK (putK (putK [] kL (.ref L)) kC (.ref C)) kF (.int 0)) kT (.int 0) = [(kL, V.ref L), (kC, V.ref C), (kF, V.int 0), (kT, V.int 0)]
  have e1 : putK ([] : List (Key × V)) kL (.ref L) = [(kL, V.ref L)] := putK_new _ rfl
  have e2 : putK [(kL, V.ref L)] kC (.ref C) = [(kL, V.ref L), (kC, V.ref C)] := putK_new _ (valV_neg (p := (kL, V.ref L)) kLC)
  have e3 : putK [(kL, V.ref L), (kC, V.ref C)] kF (.int 0) = [(kL, V.ref L), (kC, V.ref C), (kF, V.int 0)] := putK_new _ ((valV_neg (p := (kL, V.ref L)) kLF).trans (valV_neg (p := (kC, V.ref C)) kCF))
  have e4 : putK [(kL, V.ref L), (kC, V.ref C), (kF, V.int 0)] kT (.int 0) = [(kL, V.ref L), (kC, V.ref C), (kF, V.int 0), (kT, V.int 0)] := putK_new _ ((valV_neg (p := (kL, V.ref L)) kLT).trans ((valV_neg (p := (kC, V.ref C)) kCT).trans (valV_neg (p := (kF, V.int 0)) kFT)))
  rw [e1, e2, e3, e4]
theorem alike_ints (i j : Int) : PySem.W.alike (.int i) (.int j) = true := rfl
theorem beg1_reads {K0 : PySem.W.Frag} {ns : List Int} {A : AE} (hl : ns.length ≤ 100000) (q : A.nx ⟨[.sc K0 ns, .d (.list (ns.map fun n => .int (absI n))), .un, .un], [], 0⟩) : wBeg1 K0 ⟨[.sc K0 ns, .un, .un, .un], [], 0⟩ A := by
  refine ⟨_, rfl, by simpa using hl, fun i acc ow => ow = [] ∧ acc = (ns.take i).map fun n => .int (absI n), ⟨rfl, rfl⟩, ?_, ?_⟩
  · rintro acc ow ⟨rfl, rfl⟩
    refine ⟨_, rfl, ?_⟩
    rw [List.length_map, List.take_length]
    exact q
  · rintro k x acc ow hx ⟨rfl, rfl⟩
    rw [List.getElem?_map] at hx
    cases e : ns[k]? with
    | none => rw [e] at hx; cases hx
    | some n =>
      rw [e] at hx; cases hx
      refine ⟨fun _ => ⟨_, n, rfl, rfl, _, rfl, rfl, ?_⟩, fun z => by cases z⟩
      rw [List.take_add_one, e]
      simp
theorem beg2_reads {ms : List Int} {x0 : Sl} {A : AE} (hl : ms.length ≤ 100000) (q : ∀ ls : List Int, ls.length ≤ 100000 → A.nx ⟨[x0, .d (.list (ms.map PyData.int)), .o 0, .un], [.ls (ls.map PyData.int)], 0⟩) :
    wBeg2 ⟨[x0, .d (.list (ms.map PyData.int)), .un, .un], [], 0⟩ A := by
  refine ⟨_, _, rfl, rfl, by simpa using hl, fun i acc ow => ow = [] ∧ ∃ ls : List Int, acc = ls.map PyData.int ∧ ls.length ≤ i, ⟨rfl, [], rfl, Nat.le_refl _⟩, ?_, ?_⟩
  · rintro acc ow ⟨rfl, ls, rfl, h⟩
    refine ⟨_, rfl, ?_⟩
    rw [List.length_map] at h
    exact q ls (by omega)
  · rintro k x acc ow hx ⟨rfl, ls, rfl, h⟩
    rw [List.getElem?_map] at hx
    cases e : ms[k]? with
    | none => rw [e] at hx; cases hx
    | some n =>
      rw [e] at hx; cases hx
      refine ⟨⟨by decide, by decide, by decide⟩, .int n, .int (10 ^ 18), rfl, rfl, rfl, nofun, Nat.le_trans (Nat.min_le_right _ _) (by decide), _, rfl, fun _ => ?_, fun _ => ⟨rfl, ls, rfl, by omega⟩⟩
      refine ⟨⟨by decide, by decide, by decide⟩, trivial, ⟨_, rfl, rfl, ls ++ [n - 10 ^ 18], by simp, by simp; omega⟩⟩
abbrev tBeg3 : TS := tRet (tDisp [(tC (.str "large"), tVar 2), (tC (.str "cells"), tVar 1), (tC (.str "left"), tC (.int 0)), (tC (.str "turn"), tC (.int 0))])
theorem at_slot {σ : Sgm} {i : Nat} {v : V} (h : σ[i]?.join = some v) : σ[i]? = some (some v) := by
  cases e : σ[i]? with
  | none => rw [e] at h; cases h
  | some o => rw [e] at h; cases o with
    | none => cases h
    | some u => cases h; rfl
theorem begun_reads {K0 : PySem.W.Frag} {E : XK} {ts1 ts2 : TS} (h1 : SndS E ts1 (wBeg1 K0)) (h2 : SndS E ts2 wBeg2) {vs : List V} {H : Hp} {Q : VK} (h : spBegun K0 vs H Q E) :
    tSeq ts1 (tSeq ts2 tBeg3) { nx := fun _ H' => Q .non H', rt := Q } (L2.start ["script", "cells_here", "large", "cell"] vs) H := by
  obtain ⟨p, ns, rfl, hp, hl, q⟩ := h
  let F : Hp := fun b => match H b with | some (.frz o u) => some (.frz o u) | some (.tup xs) => some (.tup xs) | _ => none
  have hF : ∀ b o, F b = some o → H b = some o ∧ ((∃ o' u, o = .frz o' u) ∨ ∃ xs, o = .tup xs) := fun b o e => by
    have e' : (match H b with | some (.frz o u) => some (.frz o u) | some (.tup xs) => some (.tup xs) | _ => none) = some o := e
    split at e'
    · next o' u e2 => cases e'; exact ⟨e2, .inl ⟨o', u, rfl⟩⟩
    · next xs e2 => cases e'; exact ⟨e2, .inr ⟨xs, rfl⟩⟩
    · cases e'
  have sF : Sub F H := fun b o e => (hF b o e).1
  have hp' : Lk K0 ns F p := hp.imp (fun ⟨o, e⟩ => ⟨o, by
    show (match H p with | some (.frz o u) => some (HO.frz o u) | some (.tup xs) => some (HO.tup xs) | _ => none) = _
    rw [e]⟩) id
  have x0 : AOk ⟨[.sc K0 ns, .un, .un, .un], [], 0⟩ (L2.start ["script", "cells_here", "large", "cell"] [.ref p]) F H [] :=
    ⟨sF, List.nodup_nil, rfl, fun k fp c e => by simp at e, fun r hr => by simp at hr, rfl, fun i s e => by
      match i, e with
      | 0, e => cases e; exact ⟨p, rfl, hp'⟩
      | 1, e => cases e; trivial
      | 2, e => cases e; trivial
      | 3, e => cases e; trivial
      | i + 4, e => simp at e, Nat.zero_le _, fun b xs e => by
      show (match H b with | some (.frz o u) => some (HO.frz o u) | some (.tup xs) => some (HO.tup xs) | _ => none) = _
      rw [e]⟩
  let A0 : AE := { nx := fun _ => False, rt := fun _ _ => False, bk := fun _ => False, ct := fun _ => False, xb := fun _ _ => False }
  refine h1 _ { A0 with nx := fun a => a = ⟨[.sc K0 ns, .d (.list (ns.map fun n => .int (absI n))), .un, .un], [], 0⟩ } (beg1_reads hl rfl) _ F H [] x0 _
    ⟨fun a' σ' F' H' fps' e x l t n => ?_, fun _ _ _ _ _ _ _ z => z.elim, fun _ _ _ _ _ z => z.elim, fun _ _ _ _ _ z => z.elim, fun _ _ _ _ _ _ _ z => z.elim⟩
  have e' : a' = ⟨[.sc K0 ns, .d (.list ((ns.map absI).map PyData.int)), .un, .un], [], 0⟩ := by rw [e, List.map_map]; rfl
  subst e'
  refine h2 _ { A0 with nx := fun a => ∃ ls : List Int, ls.length ≤ 100000 ∧ a = ⟨[.sc K0 ns, .d (.list ((ns.map absI).map PyData.int)), .o 0, .un], [.ls (ls.map PyData.int)], 0⟩ }
    (beg2_reads (by rw [List.length_map]; exact hl) fun ls h => ⟨ls, h, rfl⟩) _ F' H' fps' x _ ⟨fun a2 σ2 F2 H2 fps2 e2 x2 l2 t2 n2 => ?_, fun _ _ _ _ _ _ _ z => z.elim, fun _ _ _ _ _ z => z.elim, fun _ _ _ _ _ z => z.elim, fun _ _ _ _ _ _ _ z => z.elim⟩
  obtain ⟨ls, hls, rfl⟩ := e2
  have l02 := l.trans l2
  obtain ⟨L, ps, eL, fL⟩ := x2.sl 2 (.o 0) rfl
  obtain ⟨vC, eC, rC⟩ := x2.sl 1 _ rfl
  obtain ⟨rfl, us, hL, rL⟩ := cell_one x2 fL rfl
  have eu := RepAll.of_ints rL
  subst eu
  cases rC with
  | @lst C ws _ hC rw' =>
    have ew := RepAll.of_ints rw'
    subst ew
    intro s0 hs0
    have nL : L ≠ s0 := fun z => by rw [z, hs0] at hL; cases hL
    have hCH := x2.sub _ _ hC
    have nC : C ≠ s0 := fun z => by rw [z, hs0] at hCH; cases hCH
    have fLF : F2 L = none := x2.nf L (flat_mem fL (by simp))
    have nLC : L ≠ C := fun z => by rw [z, hC] at fLF; cases fLF
    refine ⟨.ref L, at_slot eL, .ref C, at_slot eC, ?_⟩
    refine ⟨upd_same, [(kL, V.ref L), (kC, V.ref C), (kF, V.int 0), (kT, V.int 0)], rfl, by show 4 ≤ 15; decide, ?_⟩
    rw [upd_twice, merge4]
    have h0 : H s0 = none := l02.ex _ hs0
    have hL0 : H L = none := (l02.pw L (flat_mem fL (by simp))).elim (fun z => by simp at z) id
    have hC0 : H C = none := by
      rcases l02.nw C (by rw [hC]; simp) with z | z | z
      · obtain ⟨o, ho⟩ := Option.ne_none_iff_exists'.mp z
        have := l02.fr _ _ ho
        rw [hC] at this
        rcases (hF C o ho).2 with ⟨o', u, rfl⟩ | ⟨xs, rfl⟩ <;> cases this
      · exact z
      · simp at z
    refine q s0 L C _ ls (ns.map absI) h0 hL0 hC0 ⟨upd_same, by rw [upd_ne nL]; exact hL, by rw [upd_ne nC]; exact hCH, Ne.symm nL, Ne.symm nC, nLC, fun b o h1 h2 h3 => ?_, fun b hb => ?_⟩ hls
    · rw [upd_ne h1]; exact l02.hp b o (by simp) h3
    · by_cases hbs : b = s0
      · rw [hbs]; exact h0
      · rw [upd_ne hbs] at hb; exact l02.ex b hb
end DL
namespace DL
open PySem PySem.Spec PyProof.Rows L2
def wAsgT (we : WE) (wg : WG) : WS := fun a D => we a (fun r a1 => ∃ d, frz r = some d ∧ wg d a1 D.nx) D.xb
theorem ds_asgT {X : Cx} {E : XK} {pos : Pos} {tg e : Expr} {te : TE} {we : WE} {vs : List Nat} {g : TG} {wg : WG} (he : DE X E e te we) (hg : DG X tg vs g wg) (hs : swapsWithSole [tg] e pos.line X.env = pure false := by rfl) (hw : swappedStores [tg] e X.env = pure none := by rfl)
    (h1 : (assignEach [tg] X.env).map (·.2) = [assign tg X.env] := by rfl) : DS X E (.Assign [tg] e pos) (tAsg te g) (wAsgT we wg) := ⟨ps_asg he.pe hg.pg hs hw h1, by
  intro a A k σ F H fps x D en
  refine he.so a _ _ k σ F H fps x _ (fun r a1 v F1 H1 ⟨d, e1, k1⟩ n1 x1 l1 o1 w1 => ?_) (ends_b en)
  obtain ⟨F2, f, rp⟩ := freeze_one (H0 := H) x1 o1.w w1 e1
  exact hg.so.run d a1 _ k1 σ F2 H1 fps v f.ok rp _ fun a2 σ2 k2 n2 w2 x2 _ _ => en.nx a2 σ2 F2 H1 fps k2 x2 (f.le l1) rfl (n2.trans n1)⟩
section
variable {X : Cx} {E : XK} {pos p2 : Pos} {tg l ea : Expr} {tl ta : TE} {we wa : WE} (K : PySem.W.Frag)
theorem di_seqK (h : DE X E l tl we) (hK : X.K = K := by rfl) : DI X E tg l (iSeq K tl) (wiSeq we) := hK ▸ di_seq h
theorem d_addK (hK : X.K = K := by rfl) : OpR X (binaryOp .Add) (rAddD K) ∧ R2S (rAddD K) gAdd := hK ▸ d_add
theorem d_mulSK (hK : X.K = K := by rfl) : OpR X (binaryOp .Mult) (rRepD K) ∧ R2S (rRepD K) gRep := hK ▸ d_mulS
theorem de_sliceK {el eh : Option Expr} {to th : TO} {wl wh : WO} (ha : DE X E ea ta wa) (hl : DO X E el to wl) (hh : DO X E eh th wh) (hK : X.K = K := by rfl) :
    DE X E (.Subscript ea (.Slice el eh none p2) pos) (tSl (rSlD K) ta to th) (wSl wa wl wh) := hK ▸ de_slice ha hl hh
theorem dg_tupK {es : List Expr} {k : Nat} {vs : List Nat} {gs : TGs} {ws : WGs} {n : Nat} (hc : X.calm = true) (h : DGs X es vs gs ws) (hK : X.K = K := by rfl) (hn : (assignEach es X.env).length = n := by rfl)
    (hst : (assignEach es X.env).findIdx? (·.1) = none := by rfl) : DG X (.Tuple es k pos) vs (gTup K n gs) (wgTup n ws) := hK ▸ dg_tup hc h hn hst
end
end DL
namespace DL
open PySem PySem.Spec PyProof.Rows L2
section
variable {a : AS} {x : D} {xs : List D} {kvs : List (D × D)} {i j : Int}
theorem vw_d : vw a (.d x) = some x := rfl
theorem vw_nl : vw a (.nl xs) = some (.list xs) := rfl
theorem keep_d : keep (.d x) = some (.d x) := rfl
theorem keep_nl : keep (.nl xs) = some (.d (.list xs)) := rfl
theorem keep_o {k} : keep (.o k) = some (.o k) := rfl
theorem frz_d : frz (.d x) = some x := rfl
theorem frz_nl : frz (.nl xs) = some (.list xs) := rfl
theorem it_l : itemsD (.list xs) = some xs := rfl
theorem it_t : itemsD (.tuple xs) = some xs := rfl
theorem out_d : outEv a (.d x) = some (.d x) := rfl
theorem out_nl : outEv a (.nl xs) = some (.nl xs) := rfl
theorem out_nd : outEv a (.nd kvs) = some (.nd kvs) := rfl
theorem toSls_nil : toSls [] = some [] := rfl
theorem toSls_cons {r : Ev} {rs : List Ev} {s : Sl} {ss : List Sl} (h : keep r = some s) (h2 : toSls rs = some ss) : toSls (r :: rs) = some (s :: ss) := by
  unfold toSls; rw [h, h2]
theorem ts_d {rs : List Ev} : toSls (.d x :: rs) = (toSls rs).map (.d x :: ·) := by
  show (match keep (.d x), toSls rs with | some d, some ds => some (d :: ds) | _, _ => none) = _
  rw [keep_d]; cases toSls rs <;> rfl
theorem ts_nl {rs : List Ev} : toSls (.nl xs :: rs) = (toSls rs).map (.d (.list xs) :: ·) := by
  show (match keep (.nl xs), toSls rs with | some d, some ds => some (d :: ds) | _, _ => none) = _
  rw [keep_nl]; cases toSls rs <;> rfl
theorem ts_o {k} {rs : List Ev} : toSls (.o k :: rs) = (toSls rs).map (.o k :: ·) := by
  show (match keep (.o k), toSls rs with | some d, some ds => some (d :: ds) | _, _ => none) = _
  rw [keep_o]; cases toSls rs <;> rfl
theorem fs_nil : frzs [] = some [] := rfl
theorem fs_d {rs : List Ev} : frzs (.d x :: rs) = (frzs rs).map (x :: ·) := by
  show (match frz (.d x), frzs rs with | some d, some ds => some (d :: ds) | _, _ => none) = _
  rw [frz_d]; cases frzs rs <;> rfl
theorem fs_nl {rs : List Ev} : frzs (.nl xs :: rs) = (frzs rs).map (.list xs :: ·) := by
  show (match frz (.nl xs), frzs rs with | some d, some ds => some (d :: ds) | _, _ => none) = _
  rw [frz_nl]; cases frzs rs <;> rfl
theorem eqv_i : PyData.eqv (.int i) (.int j) = decide (i = j) := by
  show (i == j) = _
  by_cases h : i = j <;> simp [h]
theorem plain_i : PyData.plain (.int i) = true := rfl
theorem plain_b {b} : PyData.plain (.bool b) = true := rfl
theorem plain_s {b} : PyData.plain (.str b) = true := rfl
theorem plain_n : PyData.plain .none = true := rfl
theorem plain_l : PyData.plain (.list xs) = PyData.plainAll xs := rfl
theorem plain_t : PyData.plain (.tuple xs) = PyData.plainAll xs := rfl
theorem plainAll_nil : PyData.plainAll [] = true := rfl
theorem plainAll_cons : PyData.plainAll (x :: xs) = (PyData.plain x && PyData.plainAll xs) := rfl
theorem depth_i : PyData.depth (.int i) = PyData.depth (.int 0) := rfl
theorem alike_i : PySem.W.alike (.int i) (.int j) = true := rfl
theorem dataLt_i : PySem.W.dataLt (.int i) (.int j) = decide (i < j) := lt_ints i j
theorem fLt_i : fLt (.int i) (.int j) = decide (i < j) := lt_ints i j
theorem fGt_i : fGt (.int i) (.int j) = decide (j < i) := lt_ints j i
theorem fLe_i : fLe (.int i) (.int j) = decide (i ≤ j) := by
  show (!PySem.W.dataLt (.int j) (.int i)) = _
  rw [lt_ints]; by_cases h : i ≤ j <;> simp [h] <;> omega
theorem fGe_i : fGe (.int i) (.int j) = decide (j ≤ i) := by
  show (!PySem.W.dataLt (.int i) (.int j)) = _
  rw [lt_ints]; by_cases h : j ≤ i <;> simp [h] <;> omega
theorem min_d0 {n : Nat} : min n (PyData.depth (.int 0)) ≤ 150 := Nat.le_trans (Nat.min_le_right _ _) (by decide)
theorem min_d1 {n : Nat} : min (PyData.depth (.int 0)) n ≤ 150 := Nat.le_trans (Nat.min_le_left _ _) (by decide)
theorem depth_b {b : Bool} : PyData.depth (.bool b) = PyData.depth (.int 0) := rfl
theorem depth_s {s : Str} : PyData.depth (.str s) = PyData.depth (.int 0) := rfl
end
theorem gAdd_i {a : AS} {i j : Int} {K : Ev → Prop} : gAdd a (.d (.int i)) (.d (.int j)) K = K (.d (.int (i + j))) := rfl
def later (w : WS) : WS := w
theorem seq_later {w1 w2 : WS} {a : AS} {A : AE} : wSeq w1 w2 a A = w1 a { A with nx := fun a' => later w2 a' A } := rfl
def asPair (d : D) : Option (Int × Int) := match d with | .tuple [.int a, .int b] => some (a, b) | _ => none
def pD (p : Int × Int) : D := .tuple [.int p.1, .int p.2]
theorem asPair_eq {d : D} {p : Int × Int} (h : asPair d = some p) : d = pD p := by
  unfold asPair at h
  split at h
  · cases h; rfl
  · cases h
theorem lenSc_reads {w : WI} {j : Nat} {vs : List Nat} {c : Int} {f : Int × Int → Int} {a : AS} {K : Ev → AS → Prop} {B : XD → AS → Prop} {ps : List (Int × Int)} (hl : ps.length ≤ 4000) (hw : ∀ K', K' (ps.map pD) a → w a K' B)
    (hj : ∀ d : D, ((wipeS a.sl vs).set j (.d d))[j]? = some (.d d)) (hc : ∀ p, atI [PyData.int p.1, PyData.int p.2] c = some (.int (f p))) (q : K (.d (.int (distinct (ps.map f) : Nat))) a) :
    wLenSc w (wgName j) wYes (wOp2 gIx (wVar j) (wC (.d (.int c)))) vs a K B := by
  refine hw _ ⟨by simpa using hl, fun i ks ow => ow = a.ow ∧ ks = ((ps.take i).map f).foldl step_dedup [], ⟨rfl, rfl⟩, ?_, ?_⟩
  · rintro ks ow ⟨rfl, rfl⟩
    rw [List.length_map, List.take_length]
    exact q
  · rintro k x ks ow hx ⟨rfl, rfl⟩
    rw [List.getElem?_map] at hx
    cases e : ps[k]? with
    | none => rw [e] at hx; cases hx
    | some p =>
      rw [e] at hx; cases hx
      refine ⟨fun _ => ?_, fun z => by cases z⟩
      show wOp2 gIx (wVar j) (wC (.d (.int c))) { a with sl := (wipeS a.sl vs).set j (.d (pD p)) } _ _
      unfold wOp2 wVar wC
      simp only [hj]
      refine ⟨pD p, [.int p.1, .int p.2], c, .int (f p), rfl, rfl, rfl, hc p, f p, rfl, by first | rfl | trivial, ?_⟩
      rw [List.take_add_one, e, List.map_append, List.foldl_append]
      rfl
theorem lc_ints {w : WI} {j : Nat} {vs : List Nat} {c : Int} {f : Int × Int → Int} {a : AS} {K : Ev → AS → Prop} {B : XD → AS → Prop} {ps : List (Int × Int)} (hl : ps.length ≤ 4000) (hw : ∀ K', K' (ps.map pD) a → w a K' B)
    (hj : ∀ d : D, ((wipeS a.sl vs).set j (.d d))[j]? = some (.d d)) (hc : ∀ p, atI [PyData.int p.1, PyData.int p.2] c = some (.int (f p))) (q : K (.nl ((ps.map f).map PyData.int)) a) :
    wLc w (wgName j) wYes (wOp2 gIx (wVar j) (wC (.d (.int c)))) vs a K B := by
  refine hw _ ⟨by rw [List.length_map]; omega, fun i acc ow => ow = a.ow ∧ acc = ((ps.take i).map f).map PyData.int, ⟨rfl, rfl⟩, ?_, ?_⟩
  · rintro acc ow ⟨rfl, rfl⟩
    rw [List.length_map, List.take_length]
    exact q
  · rintro k x acc ow hx ⟨rfl, rfl⟩
    rw [List.getElem?_map] at hx
    cases e : ps[k]? with
    | none => rw [e] at hx; cases hx
    | some p =>
      rw [e] at hx; cases hx
      refine ⟨fun _ => ?_, fun z => by cases z⟩
      show wOp2 gIx (wVar j) (wC (.d (.int c))) { a with sl := (wipeS a.sl vs).set j (.d (pD p)) } _ _
      unfold wOp2 wVar wC
      simp only [hj]
      refine ⟨pD p, [.int p.1, .int p.2], c, .int (f p), rfl, rfl, rfl, hc p, _, rfl, by first | rfl | trivial, ?_⟩
      rw [List.take_add_one, e, List.map_append, List.map_append]
      rfl
theorem intsD_ints : ∀ ns : List Int, intsD (ns.map PyData.int) = some ns
  | [] => rfl
  | n :: ns => by
    show (intsD (ns.map PyData.int)).map (n :: ·) = _
    rw [intsD_ints ns]; rfl
def ones (p : D → Bool) (xs : List D) : List D := (xs.filter fun x => !p x).map fun _ => .int 1
theorem lc_count {w : WI} {wg : WG} {wt : WT} {vs : List Nat} {p : D → Bool} {a : AS} {K : Ev → AS → Prop} {B : XD → AS → Prop} {xs : List D} (hl : xs.length ≤ 4000) (hw : ∀ K', K' xs a → w a K' B)
    (ht : ∀ x, x ∈ xs → ∀ K', (∀ a4, a4.ow = a.ow → K' (!p x) a4) → wg x { a with sl := wipeS a.sl vs, ow := a.ow } (fun a3 => wt a3 K' (fun _ _ => False))) (q : K (.nl (ones p xs)) a) :
    wLc w wg wt (wC (.d (.int 1))) vs a K B := by
  refine hw _ ⟨by omega, fun i acc ow => ow = a.ow ∧ acc = ones p (xs.take i), ⟨rfl, rfl⟩, ?_, ?_⟩
  · rintro acc ow ⟨rfl, rfl⟩
    rw [List.take_length]
    exact q
  · rintro k x acc ow hx ⟨rfl, rfl⟩
    refine ht x (List.mem_of_getElem? hx) _ fun a4 ha => ⟨fun z => ⟨_, rfl, ha, ?_⟩, fun z => ⟨ha, ?_⟩⟩
    · unfold ones
      rw [List.take_add_one, hx, List.filter_append, List.map_append]
      simp only [Option.toList_some, List.filter_cons, z, if_true, List.filter_nil, List.map_cons, List.map_nil]
    · unfold ones
      rw [List.take_add_one, hx, List.filter_append, List.map_append]
      simp only [Option.toList_some, List.filter_cons, z, Bool.false_eq_true, if_false, List.filter_nil, List.map_nil, List.append_nil]
theorem ones_plain (p : D → Bool) : ∀ xs : List D, PyData.plainAll (ones p xs) = true
  | [] => rfl
  | x :: xs => by
    unfold ones
    by_cases h : p x = true
    · rw [List.filter_cons_of_neg (by simp [h])]; exact ones_plain p xs
    · rw [List.filter_cons_of_pos (by simp [h])]; exact ones_plain p xs
theorem ones_nil (p : D → Bool) : ∀ xs : List D, PyData.eqv (.list (ones p xs)) (.list []) = xs.all p
  | [] => rfl
  | x :: xs => by
    unfold ones
    by_cases h : p x = true
    · rw [List.filter_cons_of_neg (by simp [h]), List.all_cons, h]; exact ones_nil p xs
    · rw [List.filter_cons_of_pos (by simp [h]), List.all_cons]
      simp only [Bool.not_eq_true] at h
      rw [h]; rfl
theorem take_set (ow : List Own) (k : Nat) (c : Own) : List.take ow.length (ow.set k c) = ow.set k c := List.take_of_length_le (by rw [List.length_set]; exact Nat.le_refl _)
theorem take_set_app (ow : List Own) (k : Nat) (c : Own) (r : List Own) : List.take ow.length (ow.set k c ++ r) = ow.set k c := by
  rw [List.take_append_of_le_length (by rw [List.length_set]; exact Nat.le_refl _), take_set]
theorem get_set {ow : List Own} {k : Nat} {c c' : Own} (h : ow[k]? = some c) : (ow.set k c')[k]? = some c' := List.getElem?_set_self (List.getElem?_eq_some_iff.mp h).1
theorem get_set_app {ow : List Own} {k : Nat} {c c' : Own} (h : ow[k]? = some c) (r : List Own) : (ow.set k c' ++ r)[k]? = some c' := by
  rw [List.getElem?_append_left (by rw [List.length_set]; exact (List.getElem?_eq_some_iff.mp h).1)]; exact get_set h
theorem set_app {ow : List Own} {k : Nat} {c c' : Own} (h : ow[k]? = some c) (r : List Own) : (ow ++ r).set k c' = ow.set k c' ++ r := List.set_append_left _ _ (List.getElem?_eq_some_iff.mp h).1
theorem set_set_app {ow : List Own} {k : Nat} {c c1 c2 : Own} (h : ow[k]? = some c) (r : List Own) : (ow.set k c1 ++ r).set k c2 = ow.set k c2 ++ r := by
  rw [set_app (get_set h), List.set_set]
theorem atI_nat {ds : List D} {r : Nat} (h : r < ds.length) : atI ds (r : Int) = some ds[r] := by
  unfold atI ixN
  rw [if_pos (by omega), if_pos (by omega)]
  show ds[(r : Int).toNat]? = _
  rw [Int.toNat_natCast, List.getElem?_eq_getElem h]
theorem vw_o {a : AS} {k : Nat} {xs : List D} (h : a.ow[k]? = some (.ls xs)) : vw a (.o k) = some (.list xs) := by simp only [vw, h]
theorem out_o {a : AS} {k : Nat} {xs : List D} (hk : a.n ≤ k) (h : a.ow[k]? = some (.ls xs)) : outEv a (.o k) = some (.nl xs) := by
  simp only [outEv, h, if_neg (Nat.not_lt.mpr hk)]
end DL
namespace DL
open PySem PySem.Spec PyProof.Rows L2
def leP (p q : Int × Int) : Bool := decide (p.1 < q.1 ∨ (p.1 = q.1 ∧ p.2 ≤ q.2))
theorem toks_pD (p : Int × Int) : PySem.W.keyToks (pD p) = [.inl 1, .inl p.1, .inl 1, .inl p.2, .inl 0] := rfl
theorem blt_i (i j : Int) : PyProof.Rows.itemOrd.blt (.inl i) (.inl j) = decide (i < j) := rfl
theorem lexc (x y : Int) (r t : List (Int ⊕ List Nat)) : PyProof.Rows.lexLt PyProof.Rows.itemOrd (Sum.inl x :: r) (Sum.inl y :: t) = (decide (x < y) || (!decide (y < x) && PyProof.Rows.lexLt PyProof.Rows.itemOrd r t)) :=
  PyProof.Rows.lex_cons (O := PyProof.Rows.itemOrd) (Sum.inl x) (Sum.inl y) r t
theorem lexn : PyProof.Rows.lexLt PyProof.Rows.itemOrd [] [] = false := PyProof.Rows.lex_irrefl (O := PyProof.Rows.itemOrd) []
theorem dataLe_pD (p q : Int × Int) : PySem.W.dataLe false id (pD p) (pD q) = leP p q := by
  show (!PyProof.Rows.lexLt PyProof.Rows.itemOrd (PySem.W.keyToks (pD q)) (PySem.W.keyToks (pD p))) = _
  rw [toks_pD, toks_pD, lexc, lexc, lexc, lexc, lexc, lexn]
  unfold leP
  by_cases h1 : q.1 < p.1
  · have : ¬ (p.1 < q.1 ∨ p.1 = q.1 ∧ p.2 ≤ q.2) := by omega
    simp [h1, this]
  · by_cases h2 : p.1 < q.1
    · simp [h1, h2]
    · have e : p.1 = q.1 := by omega
      by_cases h3 : q.2 < p.2
      · have : ¬ (p.1 < q.1 ∨ p.1 = q.1 ∧ p.2 ≤ q.2) := by omega
        simp [h1, h2, h3, this]
      · have : (p.1 < q.1 ∨ p.1 = q.1 ∧ p.2 ≤ q.2) := by omega
        simp [h1, h2, h3, e]; omega
theorem leP_trans (a b c : Int × Int) : leP a b = true → leP b c = true → leP a c = true := by
  simp only [leP, decide_eq_true_eq]; omega
theorem leP_total (a b : Int × Int) : (leP a b || leP b a) = true := by
  simp only [leP, Bool.or_eq_true, decide_eq_true_eq]; omega
theorem leP_anti {a b : Int × Int} (h : leP a b = true) (k : leP b a = true) : a = b := by
  simp only [leP, decide_eq_true_eq] at h k
  exact Prod.ext (by omega) (by omega)
def sortP (ps : List (Int × Int)) : List (Int × Int) := ps.mergeSort leP
theorem sortP_perm (ps : List (Int × Int)) : (sortP ps).Perm ps := List.mergeSort_perm _ _
theorem sortP_pw (ps : List (Int × Int)) : (sortP ps).Pairwise fun a b => leP a b = true := List.pairwise_mergeSort leP_trans leP_total ps
theorem sortP_len (ps : List (Int × Int)) : (sortP ps).length = ps.length := (sortP_perm ps).length_eq
theorem sortP_of {ps : List (Int × Int)} (h : ps.Pairwise fun a b => leP a b = true) : sortP ps = ps := List.mergeSort_of_pairwise h
theorem sortD_pD (ps : List (Int × Int)) : sortD (ps.map pD) = (sortP ps).map pD :=
  (List.map_mergeSort fun a _ b _ => (dataLe_pD a b).symm).symm
theorem eq_of_perm_sorted {ps qs : List (Int × Int)} (hp : ps.Perm qs) (h1 : ps.Pairwise fun a b => leP a b = true) (h2 : qs.Pairwise fun a b => leP a b = true) : ps = qs := by
  induction ps generalizing qs with
  | nil => exact (List.Perm.nil_eq hp)
  | cons p ps ih =>
    cases qs with
    | nil => exact absurd hp.length_eq (by simp)
    | cons q qs =>
      have e : p = q := by
        have m1 : p ∈ q :: qs := hp.mem_iff.mp (List.mem_cons_self ..)
        have m2 : q ∈ p :: ps := hp.mem_iff.mpr (List.mem_cons_self ..)
        rcases List.mem_cons.mp m1 with z | z
        · exact z
        · rcases List.mem_cons.mp m2 with y | y
          · exact y.symm
          · exact leP_anti ((List.pairwise_cons.mp h1).1 q y) ((List.pairwise_cons.mp h2).1 p z)
      subst e
      rw [ih (List.Perm.cons_inv hp) (List.pairwise_cons.mp h1).2 (List.pairwise_cons.mp h2).2]
theorem sortP_eq {ps qs : List (Int × Int)} (hp : ps.Perm qs) (h : qs.Pairwise fun a b => leP a b = true) : sortP ps = qs :=
  eq_of_perm_sorted ((sortP_perm ps).trans hp) (sortP_pw ps) h
theorem sortP_congr {ps qs : List (Int × Int)} (hp : ps.Perm qs) : sortP ps = sortP qs := sortP_eq (hp.trans (sortP_perm qs).symm) (sortP_pw qs)
theorem eqv_pD (p q : Int × Int) : PyData.eqv (pD p) (pD q) = decide (p = q) := by
  show ((p.1 == q.1) && ((p.2 == q.2) && true)) = _
  obtain ⟨a, b⟩ := p; obtain ⟨c, d⟩ := q
  by_cases h : a = c <;> by_cases k : b = d <;> simp [h, k]
theorem eqvAll_pD : ∀ ps qs : List (Int × Int), PyData.eqvAll (ps.map pD) (qs.map pD) = decide (ps = qs)
  | [], [] => rfl
  | [], q :: qs => by simp [PyData.eqvAll]
  | p :: ps, [] => by simp [PyData.eqvAll]
  | p :: ps, q :: qs => by
    show (PyData.eqv (pD p) (pD q) && PyData.eqvAll (ps.map pD) (qs.map pD)) = _
    rw [eqv_pD, eqvAll_pD ps qs]
    by_cases h : p = q <;> by_cases k : ps = qs <;> simp [h, k]
structure Pl (m : Int) (ps : List (Int × Int)) : Prop where
  rng : ∀ p ∈ ps, 0 ≤ p.1 ∧ p.1 < m ∧ 0 ≤ p.2 ∧ p.2 < m
  asc : ps.Pairwise fun p q => p.1 < q.1
  des : (ps.map (·.2)).Nodup
theorem Pl.mono {m k : Int} {ps : List (Int × Int)} (h : Pl m ps) (hm : m ≤ k) : Pl k ps := ⟨fun p hp => by have := h.rng p hp; omega, h.asc, h.des⟩
theorem Pl.sorted {m : Int} {ps : List (Int × Int)} (h : Pl m ps) : ps.Pairwise fun a b => leP a b = true := h.asc.imp fun {a b} z => by simp only [leP, decide_eq_true_eq]; exact .inl z
theorem Pl.sub {m : Int} {ps qs : List (Int × Int)} (h : Pl m ps) (s : qs.Sublist ps) : Pl m qs := ⟨fun p hp => h.rng p (s.subset hp), h.asc.sublist s, h.des.sublist (s.map _)⟩
theorem asc_of {ps : List (Int × Int)} (h : ps.Pairwise fun a b => leP a b = true) (n : (ps.map (·.1)).Nodup) : ps.Pairwise fun p q => p.1 < q.1 := by
  induction ps with
  | nil => exact .nil
  | cons p ps ih =>
    rw [List.pairwise_cons] at h
    rw [List.map_cons, List.nodup_cons] at n
    refine List.pairwise_cons.mpr ⟨fun q hq => ?_, ih h.2 n.2⟩
    have z := h.1 q hq
    simp only [leP, decide_eq_true_eq] at z
    have : p.1 ≠ q.1 := fun e => n.1 (by rw [e]; exact List.mem_map_of_mem hq)
    omega
theorem Pl.firsts {m : Int} {ps : List (Int × Int)} (h : Pl m ps) : (ps.map (·.1)).Nodup := by
  rw [List.nodup_iff_pairwise_ne, List.pairwise_map]
  exact h.asc.imp fun {a b} z => by omega
theorem Pl.of_sort {m : Int} {ps : List (Int × Int)} (hr : ∀ p ∈ ps, 0 ≤ p.1 ∧ p.1 < m ∧ 0 ≤ p.2 ∧ p.2 < m) (h1 : (ps.map (·.1)).Nodup) (h2 : (ps.map (·.2)).Nodup) : Pl m (sortP ps) where
  rng := fun p hp => hr p ((sortP_perm ps).mem_iff.mp hp)
  asc := asc_of (sortP_pw ps) (((sortP_perm ps).map _).nodup_iff.mpr h1)
  des := ((sortP_perm ps).map _).nodup_iff.mpr h2
theorem nodup_len {ns : List Int} {m : Nat} (h : ns.Nodup) (r : ∀ x ∈ ns, 0 ≤ x ∧ x < (m : Int)) : ns.length ≤ m := by
  induction m generalizing ns with
  | zero =>
    cases ns with
    | nil => exact Nat.le_refl _
    | cons x xs => have := r x (List.mem_cons_self ..); omega
  | succ m ih =>
    have h2 := ih (ns := ns.erase (m : Int)) (h.erase _) fun x hx => by
      have a := r x (List.mem_of_mem_erase hx)
      have b : x ≠ (m : Int) := fun e => by subst e; exact (List.Nodup.not_mem_erase h) hx
      omega
    have : ns.length ≤ (ns.erase (m : Int)).length + 1 := by
      rw [List.length_erase]; split <;> omega
    omega
theorem Pl.len {m : Nat} {ps : List (Int × Int)} (h : Pl m ps) : ps.length ≤ m := by
  have := nodup_len (m := m) h.firsts fun x hx => by
    obtain ⟨p, hp, rfl⟩ := List.mem_map.mp hx
    have := h.rng p hp; omega
  simpa using this
end DL
namespace DL
open PySem PySem.Spec PyProof.Rows L2
def side (P Q : Prop) : Prop := P ∧ Q
theorem side_t (Q : Prop) : side True Q = Q := by simp [side]
def br (c : Bool) (P Q : Prop) : Prop := (c = true → P) ∧ (c = false → Q)
theorem br_t (P Q : Prop) : br true P Q = P := by simp [br]
theorem br_f (P Q : Prop) : br false P Q = Q := by simp [br]
theorem br_i {c : Bool} {P Q : Prop} (h1 : c = true → P) (h2 : c = false → Q) : br c P Q := ⟨h1, h2⟩
theorem br_same (c : Bool) (P : Prop) (h : P) : br c P P := ⟨fun _ => h, fun _ => h⟩
def so {α : Type} (o : Option α) (F : α → Prop) : Prop := match o with | some x => F x | none => False
theorem so_s {α : Type} (x : α) (F : α → Prop) : so (some x) F = F x := rfl
theorem so_i {α : Type} {o : Option α} {x : α} {F : α → Prop} (h : o = some x) (k : F x) : so o F := by rw [h]; exact k
def boD : Option D → Option Bool
  | some (.bool b) => some b
  | _ => none
def inD : Option D → Option Int
  | some (.int b) => some b
  | _ => none
def seD : Option D → Option (List D)
  | some (.list b) => some b
  | some (.tuple b) => some b
  | _ => none
theorem boD_b (b : Bool) : boD (some (.bool b)) = some b := rfl
theorem inD_i (b : Int) : inD (some (.int b)) = some b := rfl
theorem seD_l (b : List D) : seD (some (.list b)) = some b := rfl
theorem seD_t (b : List D) : seD (some (.tuple b)) = some b := rfl
theorem so_bo (o : Option D) (F : Bool → Prop) : (∃ b, o = some (.bool b) ∧ F b) = so (boD o) F := propext ⟨fun ⟨b, e, k⟩ => by rw [e]; exact k, fun k => by
  match o, k with
  | some (.bool b), k => exact ⟨b, rfl, k⟩⟩
theorem so_in (o : Option D) (F : Int → Prop) : (∃ b, o = some (.int b) ∧ F b) = so (inD o) F := propext ⟨fun ⟨b, e, k⟩ => by rw [e]; exact k, fun k => by
  match o, k with
  | some (.int b), k => exact ⟨b, rfl, k⟩⟩
theorem so_se (o : Option D) (F : List D → Prop) : (∃ d b, o = some d ∧ itemsD d = some b ∧ F b) = so (seD o) F := propext ⟨fun ⟨d, b, e, i, k⟩ => by
    subst e
    cases d with
    | list x => cases i; exact k
    | tuple x => cases i; exact k
    | _ => (cases i), fun k => by
  match o, k with
  | some (.list b), k => exact ⟨_, b, rfl, rfl, k⟩
  | some (.tuple b), k => exact ⟨_, b, rfl, rfl, k⟩⟩
theorem so_any {α : Type} (o : Option α) (F : α → Prop) : (∃ b, o = some b ∧ F b) = so o F := propext ⟨fun ⟨b, e, k⟩ => by rw [e]; exact k, fun k => by
  match o, k with
  | some b, k => exact ⟨b, rfl, k⟩⟩
section
variable {a : AS} {K : Ev → AS → Prop} {B : XD → AS → Prop} {D' : AE} {wt wt2 : WT} {w1 w2 : WS} {wa wb wc we wo : WE} {g g' : G2} {ww : WA}
theorem u_if : wIf wt w1 w2 a D' = wt a (fun c a1 => br c (w1 a1 D') (w2 a1 D')) D'.xb := rfl
theorem u_ife {K : Ev → AS → Prop} : wIfE wt wa wb a K B = wt a (fun c a1 => br c (wa a1 K B) (wb a1 K B)) B := rfl
theorem u_andT {K : Bool → AS → Prop} : wAndT wt wt2 a K B = wt a (fun c a1 => br c (wt2 a1 K B) (K false a1)) B := rfl
theorem u_orT {K : Bool → AS → Prop} : wOrT wt wt2 a K B = wt a (fun c a1 => br c (K true a1) (wt2 a1 K B)) B := rfl
theorem u_andV : wAndV wa wb a K B = wa a (fun r a1 => so (boD (vw a1 r)) fun c => br c (wb a1 K B) (K (.d (.bool false)) a1)) B := by
  unfold wAndV
  congr 1; funext r a1; exact so_bo _ _
theorem u_orV : wOrV wa wb a K B = wa a (fun r a1 => so (boD (vw a1 r)) fun c => br c (K (.d (.bool true)) a1) (wb a1 K B)) B := by
  unfold wOrV
  congr 1; funext r a1; exact so_bo _ _
theorem u_notV : wNotV wa a K B = wa a (fun r a1 => so (boD (vw a1 r)) fun c => K (.d (.bool (!c))) a1) B := by
  unfold wNotV
  congr 1; funext r a1; exact so_bo _ _
theorem u_tst {K : Bool → AS → Prop} : wTst wa a K B = wa a (fun r a1 => so (boD (vw a1 r)) fun c => K c a1) B := by
  unfold wTst
  congr 1; funext r a1; exact so_bo _ _
theorem u_set {i : Nat} : wSet i we a D' = we a (fun r a1 => so (keep r) fun s => D'.nx { a1 with sl := a1.sl.set i s }) D'.xb := by
  unfold wSet
  congr 1; funext r a1; exact so_any _ _
theorem u_setO {i : Nat} : wSetO i we a D' = we a (fun r a1 => so (cellOf r) fun c => D'.nx { a1 with sl := a1.sl.set i (.o a1.ow.length), ow := a1.ow ++ [c] }) D'.xb := by
  unfold wSetO
  congr 1; funext r a1; exact so_any _ _
theorem u_par {ps : List (Nat × Bool)} : wPar ps ww a D' = ww a (fun rs a1 => so (parStore ps rs a1) fun a2 => D'.nx a2) D'.xb := by
  unfold wPar
  congr 1; funext r a1; exact so_any _ _
theorem u_asgT {wg : WG} : wAsgT we wg a D' = we a (fun r a1 => so (frz r) fun d => wg d a1 D'.nx) D'.xb := by
  unfold wAsgT
  congr 1; funext r a1; exact so_any _ _
theorem u_call {c : Ct} {m : Nat} : wCall c m ww a K B = ww a (fun rs a1 => so (toSls rs) fun ss => side (ss.length = m) (c ss a1.ow (fun r ow => K r { a1 with ow := ow }) (fun x ow => B x { a1 with ow := ow }))) B := by
  unfold wCall
  congr 1; funext r a1; exact so_any _ _
theorem u_callK {c : Ct} {m : Nat} {perm : List Nat} : wCallK c m perm ww a K B = ww a (fun rs a1 => so (toSls rs) fun ss => side (ss.length = perm.length ∧ perm.length = m) (c (pick .un perm ss) a1.ow (fun r ow => K r { a1 with ow := ow }) (fun x ow => B x { a1 with ow := ow }))) B := by
  unfold wCallK
  congr 1; funext r a1
  refine (so_any _ (fun ss => _)).trans ?_
  congr 1; funext ss
  exact propext ⟨fun h => ⟨⟨h.1, h.2.1⟩, h.2.2⟩, fun h => ⟨h.1.1, h.1.2, h.2⟩⟩
theorem u_tup : wTup ww a K B = ww a (fun xs a1 => so (frzs xs) fun ds => side (ds.length ≤ 100000) (K (.d (.tuple ds)) a1)) B := by
  unfold wTup
  congr 1; funext r a1; exact so_any _ _
theorem u_lst : wLst ww a K B = ww a (fun xs a1 => so (frzs xs) fun ds => side (ds.length ≤ 100000) (K (.nl ds) a1)) B := by
  unfold wLst
  congr 1; funext r a1; exact so_any _ _
def intsO : Option (List D) → Option (List Int)
  | some ds => intsD ds
  | none => none
theorem u_lenSet : wLenSet we a K B = we a (fun r a1 => so (intsO (seD (vw a1 r))) fun ns => side (ns.length ≤ 4000) (K (.d (.int (distinct ns : Nat))) a1)) B := by
  unfold wLenSet
  congr 1; funext r a1
  refine propext ⟨fun ⟨d, ds, ns, e, i, j, h, k⟩ => ?_, fun k => ?_⟩
  · have e2 : seD (vw a1 r) = some ds := by
      rw [e]
      cases d with
      | list x => exact i
      | tuple x => exact i
      | _ => cases i
    rw [e2]
    show so (intsD ds) _
    rw [j]
    exact ⟨h, k⟩
  · cases e : seD (vw a1 r) with
    | none => rw [e] at k; exact k.elim
    | some ds =>
      rw [e] at k
      have k' : so (intsD ds) (fun ns => side (ns.length ≤ 4000) (K (.d (.int (distinct ns : Nat))) a1)) := k
      cases j : intsD ds with
      | none => rw [j] at k'; exact k'.elim
      | some ns =>
        rw [j] at k'
        match h : vw a1 r, e with
        | some (.list b), e => cases e; exact ⟨_, _, ns, rfl, rfl, j, k'⟩
        | some (.tuple b), e => cases e; exact ⟨_, _, ns, rfl, rfl, j, k'⟩
theorem u_partW {K : Option Int → AS → Prop} : wPart we a K B = we a (fun r a1 => so (inD (vw a1 r)) fun i => K (some i) a1) B := by
  unfold wPart
  congr 1; funext r a1; exact so_in _ _
theorem u_neg : wNeg we a K B = we a (fun r a1 => so (inD (vw a1 r)) fun i => K (.d (.int (-i))) a1) B := by
  unfold wNeg
  congr 1; funext r a1; exact so_in _ _
def likeD (o : Option D) (ds : List D) : Option Ev := match o with
  | some (.list _) => some (.nl ds)
  | some (.tuple _) => some (.d (.tuple ds))
  | _ => none
theorem likeD_l (x ds : List D) : likeD (some (.list x)) ds = some (.nl ds) := rfl
theorem likeD_t (x ds : List D) : likeD (some (.tuple x)) ds = some (.d (.tuple ds)) := rfl
theorem u_rev : wRev we a K B = we a (fun r a1 => so (seD (vw a1 r)) fun ds => so (likeD (vw a1 r) ds.reverse) fun z => K z a1) B := by
  unfold wRev
  congr 1; funext r a1
  refine propext ⟨fun ⟨d, ds, e, k⟩ => ?_, fun k => ?_⟩
  · rw [e]
    rcases k with ⟨rfl, k⟩ | ⟨rfl, k⟩
    · exact k
    · exact k
  · match h : vw a1 r, k with
    | some (.list b), k => exact ⟨_, b, rfl, .inl ⟨rfl, k⟩⟩
    | some (.tuple b), k => exact ⟨_, b, rfl, .inr ⟨rfl, k⟩⟩
theorem u_sl {wl wh : WO} : wSl we wl wh a K B = we a (fun x a1 => wl a1 (fun lo a2 => wh a2 (fun hi a3 => so (seD (vw a3 x)) fun ds => so (likeD (vw a3 x) (cutD ds lo hi)) fun z => K z a3) B) B) B := by
  unfold wSl
  congr 1; funext x a1
  congr 1; funext lo a2
  congr 1; funext hi a3
  refine propext ⟨fun ⟨d, ds, e, k⟩ => ?_, fun k => ?_⟩
  · rw [e]
    rcases k with ⟨rfl, k⟩ | ⟨rfl, k⟩
    · exact k
    · exact k
  · match h : vw a3 x, k with
    | some (.list b), k => exact ⟨_, b, rfl, .inl ⟨rfl, k⟩⟩
    | some (.tuple b), k => exact ⟨_, b, rfl, .inr ⟨rfl, k⟩⟩
theorem u_lstRg : wLstRg we a K B = we a (fun r a1 => so (inD (vw a1 r)) fun n => side (0 ≤ n ∧ n ≤ 100000) (K (.nl (rangeD 0 n.toNat)) a1)) B := by
  unfold wLstRg
  congr 1; funext r a1
  refine Eq.trans ?_ (so_in _ _)
  congr 1; funext n
  exact propext ⟨fun h => ⟨h.1, ⟨h.2.1, h.2.2.1⟩, h.2.2.2⟩, fun h => ⟨h.1, h.2.1.1, h.2.1.2, h.2.2⟩⟩
def lsO : Option D → Option (List D)
  | some (.list b) => some b
  | _ => none
theorem lsO_l (b : List D) : lsO (some (.list b)) = some b := rfl
theorem so_ls (o : Option D) (F : List D → Prop) : (∃ b, o = some (.list b) ∧ F b) = so (lsO o) F := propext ⟨fun ⟨b, e, k⟩ => by rw [e]; exact k, fun k => by
  match o, k with
  | some (.list b), k => exact ⟨b, rfl, k⟩⟩
theorem u_zip2 {x y : Ev} {K : List D → Prop} : gZip a [x, y] K = so (lsO (vw a x)) fun xs => so (lsO (vw a y)) fun ys => side (xs.length ≤ 100000) (K (zipD xs ys)) := by
  unfold gZip
  refine propext ⟨fun ⟨r, u, xs, ys, e, e1, e2, h, k⟩ => ?_, fun k => ?_⟩
  · cases e
    rw [e1, e2]
    exact ⟨h, k⟩
  · match h1 : vw a x, k with
    | some (.list b), k =>
      match h2 : vw a y, k with
      | some (.list c), k => exact ⟨x, y, b, c, rfl, h1, h2, k.1, k.2⟩
theorem u_len {x : Ev} {K : Ev → Prop} : gLen a [x] K = so (seD (vw a x)) fun ds => K (.d (.int ds.length)) := by
  unfold gLen
  exact propext ⟨fun ⟨x', d, ds, e, e1, e2, k⟩ => by cases e; rw [← so_se]; exact ⟨d, ds, e1, e2, k⟩, fun k => by rw [← so_se] at k; obtain ⟨d, ds, e1, e2, k⟩ := k; exact ⟨x, d, ds, rfl, e1, e2, k⟩⟩
theorem u_list {x : Ev} {K : Ev → Prop} : gList a [x] K = so (seD (vw a x)) fun ds => K (.nl ds) := by
  unfold gList
  exact propext ⟨fun ⟨x', d, ds, e, e1, e2, k⟩ => by cases e; rw [← so_se]; exact ⟨d, ds, e1, e2, k⟩, fun k => by rw [← so_se] at k; obtain ⟨d, ds, e1, e2, k⟩ := k; exact ⟨x, d, ds, rfl, e1, e2, k⟩⟩
theorem u_tupC {x : Ev} {K : Ev → Prop} : gTupC a [x] K = so (seD (vw a x)) fun ds => K (.d (.tuple ds)) := by
  unfold gTupC
  exact propext ⟨fun ⟨x', d, ds, e, e1, e2, k⟩ => by cases e; rw [← so_se]; exact ⟨d, ds, e1, e2, k⟩, fun k => by rw [← so_se] at k; obtain ⟨d, ds, e1, e2, k⟩ := k; exact ⟨x, d, ds, rfl, e1, e2, k⟩⟩
def CanSort (ds : List D) : Prop := PySem.W.AllAlike ds ∧ PySem.W.Sortable ds ∧ ds.length ≤ 100000 ∧ PyData.depthAll ds ≤ 150
theorem u_sort {x : Ev} {K : Ev → Prop} : gSort a [x] K = so (seD (vw a x)) fun ds => side (CanSort ds) (K (.nl (sortD ds))) := by
  unfold gSort
  exact propext ⟨fun ⟨x', d, ds, e, e1, e2, h1, h2, h3, h4, k⟩ => by cases e; rw [← so_se]; exact ⟨d, ds, e1, e2, ⟨h1, h2, h3, h4⟩, k⟩, fun k => by rw [← so_se] at k; obtain ⟨d, ds, e1, e2, ⟨h1, h2, h3, h4⟩, k⟩ := k; exact ⟨x, d, ds, rfl, e1, e2, h1, h2, h3, h4, k⟩⟩
theorem u_gi1 {f : Int → Int} {x : Ev} {K : Ev → Prop} : gI1 f a [x] K = so (inD (vw a x)) fun i => K (.d (.int (f i))) := by
  unfold gI1
  exact propext ⟨fun ⟨x', i, e, e1, k⟩ => by cases e; rw [← so_in]; exact ⟨i, e1, k⟩, fun k => by rw [← so_in] at k; obtain ⟨i, e1, k⟩ := k; exact ⟨x, i, rfl, e1, k⟩⟩
theorem u_gi2 {f : Int → Int → Int} {x y : Ev} {K : Ev → Prop} : gI2 f a [x, y] K = so (inD (vw a x)) fun i => so (inD (vw a y)) fun j => K (.d (.int (f i j))) := by
  unfold gI2
  exact propext ⟨fun ⟨x', y', i, j, e, e1, e2, k⟩ => by cases e; rw [← so_in]; refine ⟨i, e1, ?_⟩; rw [← so_in]; exact ⟨j, e2, k⟩, fun k => by
    rw [← so_in] at k; obtain ⟨i, e1, k⟩ := k; rw [← so_in] at k; obtain ⟨j, e2, k⟩ := k; exact ⟨x, y, i, j, rfl, e1, e2, k⟩⟩
theorem u_isa {T : String} {f : D → Bool} {x : Ev} {K : Ev → Prop} : gIsa T f a [x, .v (.ty T)] K = so (vw a x) fun d => K (.d (.bool (f d))) := by
  unfold gIsa
  exact propext ⟨fun ⟨x', d, e, e1, k⟩ => by cases e; rw [e1]; exact k, fun k => by rw [← so_any] at k; obtain ⟨d, e1, k⟩ := k; exact ⟨x, d, rfl, e1, k⟩⟩
def CanEq (d e : D) : Prop := d.plain = true ∧ e.plain = true ∧ min d.depth e.depth ≤ 150
theorem u_eq {x y : Ev} {K : Ev → Prop} : gEq a x y K = so (vw a x) fun d => so (vw a y) fun e => side (CanEq d e) (K (.d (.bool (PyData.eqv d e)))) := by
  unfold gEq
  exact propext ⟨fun ⟨d, e, e1, e2, h1, h2, h3, k⟩ => by rw [e1, e2]; exact ⟨⟨h1, h2, h3⟩, k⟩, fun k => by
    rw [← so_any] at k; obtain ⟨d, e1, k⟩ := k; rw [← so_any] at k; obtain ⟨e, e2, ⟨h1, h2, h3⟩, k⟩ := k; exact ⟨d, e, e1, e2, h1, h2, h3, k⟩⟩
theorem u_ne {x y : Ev} {K : Ev → Prop} : gNe a x y K = so (vw a x) fun d => so (vw a y) fun e => side (CanEq d e) (K (.d (.bool (!PyData.eqv d e)))) := by
  unfold gNe
  exact propext ⟨fun ⟨d, e, e1, e2, h1, h2, h3, k⟩ => by rw [e1, e2]; exact ⟨⟨h1, h2, h3⟩, k⟩, fun k => by
    rw [← so_any] at k; obtain ⟨d, e1, k⟩ := k; rw [← so_any] at k; obtain ⟨e, e2, ⟨h1, h2, h3⟩, k⟩ := k; exact ⟨d, e, e1, e2, h1, h2, h3, k⟩⟩
def CanLt (d e : D) : Prop := PySem.W.alike d e = true ∧ d ≠ .none ∧ min d.depth e.depth ≤ 150
theorem u_lt {f : D → D → Bool} {x y : Ev} {K : Ev → Prop} : gLt f a x y K = so (vw a x) fun d => so (vw a y) fun e => side (CanLt d e) (K (.d (.bool (f d e)))) := by
  unfold gLt
  exact propext ⟨fun ⟨d, e, e1, e2, h1, h2, h3, k⟩ => by rw [e1, e2]; exact ⟨⟨h1, h2, h3⟩, k⟩, fun k => by
    rw [← so_any] at k; obtain ⟨d, e1, k⟩ := k; rw [← so_any] at k; obtain ⟨e, e2, ⟨h1, h2, h3⟩, k⟩ := k; exact ⟨d, e, e1, e2, h1, h2, h3, k⟩⟩
def CanIn (d : D) (ds : List D) : Prop := d.plain = true ∧ PyData.plainAll ds = true ∧ PyData.depthAll ds ≤ 150
theorem u_in {neg : Bool} {x y : Ev} {K : Ev → Prop} : gIn neg a x y K = so (vw a x) fun d => so (seD (vw a y)) fun ds => side (CanIn d ds) (K (.d (.bool (if neg = true then !(ds.any fun z => PyData.eqv z d) else ds.any fun z => PyData.eqv z d)))) := by
  unfold gIn
  exact propext ⟨fun ⟨d, e, ds, e1, e2, e3, h1, h2, h3, k⟩ => by rw [e1, so_s, ← so_se]; exact ⟨e, ds, e2, e3, ⟨h1, h2, h3⟩, k⟩, fun k => by
    rw [← so_any] at k; obtain ⟨d, e1, k⟩ := k; rw [← so_se] at k; obtain ⟨e, ds, e2, e3, ⟨h1, h2, h3⟩, k⟩ := k; exact ⟨d, e, ds, e1, e2, e3, h1, h2, h3, k⟩⟩
theorem u_ix {x y : Ev} {K : Ev → Prop} : gIx a x y K = so (seD (vw a x)) fun ds => so (inD (vw a y)) fun i => so (atI ds i) fun z => K (.d z) := by
  unfold gIx
  exact propext ⟨fun ⟨d, ds, i, z, e1, e2, e3, e4, k⟩ => by rw [← so_se]; refine ⟨d, ds, e1, e2, ?_⟩; rw [e3]; show so (atI ds i) _; rw [e4]; exact k, fun k => by
    rw [← so_se] at k; obtain ⟨d, ds, e1, e2, k⟩ := k; rw [← so_in] at k; obtain ⟨i, e3, k⟩ := k; rw [← so_any] at k; obtain ⟨z, e4, k⟩ := k; exact ⟨d, ds, i, z, e1, e2, e3, e4, k⟩⟩
theorem u_gi {C : Int → Int → Prop} {f : Int → Int → Int} {x y : Ev} {K : Ev → Prop} : gI C f a x y K = so (inD (vw a x)) fun i => so (inD (vw a y)) fun j => side (C i j) (K (.d (.int (f i j)))) := by
  unfold gI
  refine propext ⟨fun k => ?_, fun k => ?_⟩
  · obtain ⟨i, j, e1, e2, k⟩ := ints2 k
    rw [e1, e2]; exact k
  · rw [← so_in] at k; obtain ⟨i, e1, k⟩ := k; rw [← so_in] at k; obtain ⟨j, e2, k⟩ := k
    rw [e1, e2]; exact k
def CanShow (d : D) : Prop := d.showable = true ∧ d.hasDict = false ∧ d.depth ≤ 150 ∧ d.shown.length ≤ 100000
theorem u_repr {x : Ev} {K : Ev → Prop} : gRepr a [x] K = so (vw a x) fun d => side (itemsD d ≠ none ∧ CanShow d) (K (.d (.str d.shown))) := by
  unfold gRepr
  exact propext ⟨fun ⟨x', d, ds, e, e1, e2, h1, h2, h3, h4, k⟩ => by cases e; rw [e1]; exact ⟨⟨by rw [e2]; simp, h1, h2, h3, h4⟩, k⟩, fun k => by
    rw [← so_any] at k; obtain ⟨d, e1, ⟨h0, h1, h2, h3, h4⟩, k⟩ := k
    obtain ⟨ds, hds⟩ := Option.ne_none_iff_exists'.mp h0
    exact ⟨x, d, ds, rfl, e1, hds, h1, h2, h3, h4, k⟩⟩
def anyN (_ : Ev) : Bool := true
theorem u_rep {x y : Ev} {K : Ev → Prop} : gRep a x y K = so (seD (vw a x)) fun ds => so (inD (vw a y)) fun i => so (likeD (vw a x) (repD i ds)) fun z => side ((1 ≤ i ∨ (0 ≤ i ∧ anyN z = true)) ∧ i ≤ 1000 ∧ ds.length ≤ 1000) (K z) := by
  unfold gRep
  refine propext ⟨fun ⟨d, ds, i, e1, e2, k⟩ => ?_, fun k => ?_⟩
  · rw [e1, e2]
    rcases k with ⟨rfl, h1, h2, h3, k⟩ | ⟨rfl, h1, h2, h3, k⟩
    · exact ⟨⟨.inr ⟨h1, rfl⟩, h2, h3⟩, k⟩
    · exact ⟨⟨.inr ⟨h1, rfl⟩, h2, h3⟩, k⟩
  · match h : vw a x, k with
    | some (.list b), k =>
      rw [seD_l, so_s, ← so_in] at k
      obtain ⟨i, e2, k⟩ := k
      obtain ⟨⟨h1, h2, h3⟩, k⟩ := k
      exact ⟨_, b, i, rfl, e2, .inr ⟨rfl, by omega, h2, h3, k⟩⟩
    | some (.tuple b), k =>
      rw [seD_t, so_s, ← so_in] at k
      obtain ⟨i, e2, k⟩ := k
      obtain ⟨⟨h1, h2, h3⟩, k⟩ := k
      exact ⟨_, b, i, rfl, e2, .inl ⟨rfl, by omega, h2, h3, k⟩⟩
end
def addD : Option D → Option D → Option (Ev × Nat)
  | some (.int i), some (.int j) => some (.d (.int (i + j)), 0)
  | some (.list xs), some (.list ys) => some (.nl (xs ++ ys), xs.length + ys.length)
  | some (.tuple xs), some (.tuple ys) => some (.d (.tuple (xs ++ ys)), xs.length + ys.length)
  | some (.str i), some (.str j) => some (.d (.str (i ++ j)), i.length + j.length)
  | _, _ => none
theorem addD_i {i j : Int} : addD (some (.int i)) (some (.int j)) = some (.d (.int (i + j)), 0) := rfl
theorem addD_l {xs ys : List D} : addD (some (.list xs)) (some (.list ys)) = some (.nl (xs ++ ys), xs.length + ys.length) := rfl
theorem addD_t {xs ys : List D} : addD (some (.tuple xs)) (some (.tuple ys)) = some (.d (.tuple (xs ++ ys)), xs.length + ys.length) := rfl
theorem addD_s {i j : Str} : addD (some (.str i)) (some (.str j)) = some (.d (.str (i ++ j)), i.length + j.length) := rfl
theorem u_add {a : AS} {x y : Ev} {K : Ev → Prop} : gAdd a x y K = so (addD (vw a x) (vw a y)) fun z => side (z.2 ≤ sizeLine) (K z.1) := by
  unfold gAdd
  refine propext ⟨fun k => ?_, fun k => ?_⟩
  · match vw a x, vw a y, k with
    | some (.int i), some (.int j), k => exact ⟨Nat.zero_le _, k⟩
    | some (.str i), some (.str j), k => exact k
    | some (.list i), some (.list j), k => exact k
    | some (.tuple i), some (.tuple j), k => exact k
  · match vw a x, vw a y, k with
    | some (.int i), some (.int j), k => exact k.2
    | some (.str i), some (.str j), k => exact k
    | some (.list i), some (.list j), k => exact k
    | some (.tuple i), some (.tuple j), k => exact k
theorem u_chain2 {g g' : G2} {wa wb wc : WE} {a : AS} {K : Ev → AS → Prop} {B : XD → AS → Prop} : wChain g g' wa wb wc a K B = wa a (fun x a1 => wb a1 (fun y a2 => g a2 x y (fun z => so (match z with | .d (.bool k) => some k | _ => none) fun k => br k (wc a2 (fun u a3 => g' a3 y u (fun z' => K z' a3)) B) (K (.d (.bool false)) a2))) B) B := by
  unfold wChain
  congr 1; funext x a1
  congr 1; funext y a2
  congr 1; funext z
  refine propext ⟨fun ⟨k, e, h⟩ => ?_, fun h => ?_⟩
  · subst e
    cases k
    · exact ⟨fun z => (by cases z), fun _ => by simpa using h⟩
    · exact ⟨fun _ => by simpa using h, fun z => (by cases z)⟩
  · match z, h with
    | .d (.bool k), h =>
      refine ⟨k, rfl, ?_⟩
      cases k
      · simpa using h.2 rfl
      · simpa using h.1 rfl
def Loop (xs : List D) (wg : WG) (wb : WS) (a : AS) (A : AE) : Prop := ∃ I : Nat → AS → Prop, I 0 a ∧ (∀ a2, I xs.length a2 → A.nx a2) ∧
  ∀ k x a2, xs[k]? = some x → I k a2 → wg x a2 (fun a3 => wb a3 { A with nx := I (k + 1), ct := I (k + 1), bk := A.nx })
theorem u_for {wi : WI} {wg : WG} {wb : WS} {a : AS} {A : AE} : wFor wi wg wb a A = wi a (fun xs a1 => Loop xs wg wb a1 A) A.xb := rfl
def Comp (xs : List D) (wg : WG) (wt : WT) (we : WE) (vs : List Nat) (a : AS) (K : Ev → AS → Prop) : Prop := xs.length ≤ 100000 ∧ ∃ I : Nat → List D → List Own → Prop, I 0 [] a.ow ∧
  (∀ acc ow, I xs.length acc ow → K (.nl acc) { a with ow := ow }) ∧
  ∀ k x acc ow, xs[k]? = some x → I k acc ow → wg x { a with sl := wipeS a.sl vs, ow := ow } (fun a3 => wt a3 (fun b a4 =>
    br b (we a4 (fun r a5 => so (frz r) fun y => I (k + 1) (acc ++ [y]) a5.ow) (fun _ _ => False)) (I (k + 1) acc a4.ow)) (fun _ _ => False))
theorem u_lc {w : WI} {wg : WG} {wt : WT} {we : WE} {vs : List Nat} {a : AS} {K : Ev → AS → Prop} {B : XD → AS → Prop} : wLc w wg wt we vs a K B = w a (fun xs a1 => Comp xs wg wt we vs a1 K) B := by
  unfold wLc Comp br
  simp only [so_any]
def CompS (xs : List D) (wg : WG) (wt : WT) (we : WE) (vs : List Nat) (a : AS) (K : Ev → AS → Prop) : Prop := xs.length ≤ 4000 ∧ ∃ I : Nat → List Int → List Own → Prop, I 0 [] a.ow ∧
  (∀ ks ow, I xs.length ks ow → K (.d (.int (ks.length : Nat))) { a with ow := ow }) ∧
  ∀ k x ks ow, xs[k]? = some x → I k ks ow → wg x { a with sl := wipeS a.sl vs, ow := ow } (fun a3 => wt a3 (fun b a4 =>
    br b (we a4 (fun r a5 => so (inD (vw a5 r)) fun y => I (k + 1) (step_dedup ks y) a5.ow) (fun _ _ => False)) (I (k + 1) ks a4.ow)) (fun _ _ => False))
theorem u_lenSc {w : WI} {wg : WG} {wt : WT} {we : WE} {vs : List Nat} {a : AS} {K : Ev → AS → Prop} {B : XD → AS → Prop} : wLenSc w wg wt we vs a K B = w a (fun xs a1 => CompS xs wg wt we vs a1 K) B := by
  unfold wLenSc CompS br
  simp only [so_in]
theorem so_se' (r : Ev) (F : List D → Prop) : (∃ d ds, frz r = some d ∧ itemsD d = some ds ∧ F ds) = so (seD (frz r)) F := so_se _ _
theorem u_seq {we : WE} {a : AS} {K : List D → AS → Prop} {B : XD → AS → Prop} : wiSeq we a K B = we a (fun r a1 => so (seD (frz r)) fun ds => K ds a1) B := by
  unfold wiSeq
  congr 1; funext r a1; exact so_se _ _
theorem u_enum {we : WE} {a : AS} {K : List D → AS → Prop} {B : XD → AS → Prop} : wiEnum we a K B = we a (fun r a1 => so (seD (frz r)) fun ds => K (enumD ds) a1) B := by
  unfold wiEnum
  congr 1; funext r a1; exact so_se _ _
theorem u_rng1 {w : WE} {a : AS} {K : List D → AS → Prop} {B : XD → AS → Prop} : wiRng1 (wCons w wNil) a K B = w a (fun r a1 => so (inD (vw a1 r)) fun j => side (-(2 ^ 62) ≤ j ∧ j < 2 ^ 62) (K (rangeD 0 j.toNat) a1)) B := by
  show w a (fun x a1 => _) B = _
  congr 1; funext x a1
  refine propext ⟨fun ⟨r, j, e, e1, h1, h2, k⟩ => ?_, fun k => ?_⟩
  · cases e; rw [e1]; exact ⟨⟨h1, h2⟩, k⟩
  · rw [← so_in] at k; obtain ⟨j, e1, ⟨h1, h2⟩, k⟩ := k; exact ⟨x, j, rfl, e1, h1, h2, k⟩
theorem u_rng2 {w w2 : WE} {a : AS} {K : List D → AS → Prop} {B : XD → AS → Prop} : wiRng2 (wCons w (wCons w2 wNil)) a K B = w a (fun r a1 => w2 a1 (fun u a2 => so (inD (vw a2 r)) fun i => so (inD (vw a2 u)) fun j => side (-(2 ^ 62) ≤ i ∧ i < 2 ^ 62 ∧ -(2 ^ 62) ≤ j ∧ j < 2 ^ 62) (K (rangeD i (j - i).toNat) a2)) B) B := by
  show w a (fun x a1 => w2 a1 (fun y a2 => _) B) B = _
  congr 1; funext x a1
  congr 1; funext y a2
  refine propext ⟨fun ⟨r, u, i, j, e, e1, e2, h1, k⟩ => ?_, fun k => ?_⟩
  · cases e; rw [e1, e2]; exact ⟨h1, k⟩
  · rw [← so_in] at k; obtain ⟨i, e1, k⟩ := k; rw [← so_in] at k; obtain ⟨j, e2, h1, k⟩ := k; exact ⟨x, y, i, j, rfl, e1, e2, h1, k⟩
end DL
namespace DL
open PySem PySem.Spec PyProof.Rows L2
theorem u_seq2 {w1 w2 : WS} {a : AS} {A : AE} : wSeq w1 w2 a A = w1 a { A with nx := fun a' => w2 a' A } := rfl
def stOf (ow : List Own) (k : Nat) : Option Nat := match ow[k]? with
  | some (.st t) => some t
  | _ => none
theorem stOf_i {ow : List Own} {k t : Nat} (h : ow[k]? = some (.st t)) : stOf ow k = some t := by unfold stOf; rw [h]
theorem stOf_e {ow : List Own} {k t : Nat} (h : stOf ow k = some t) : ow[k]? = some (.st t) := by
  unfold stOf at h
  split at h
  · next t' e => cases h; exact e
  · cases h
theorem stOf_lt {ow : List Own} {k t : Nat} (h : stOf ow k = some t) : k < ow.length := (List.getElem?_eq_some_iff.mp (stOf_e h)).1
theorem stOf_set {ow : List Own} {k t : Nat} (h : (stOf ow k).isSome = true) : stOf (ow.set k (.st t)) k = some t := by
  obtain ⟨u, hu⟩ := Option.isSome_iff_exists.mp h
  exact stOf_i (List.getElem?_set_self (stOf_lt hu))
theorem stOf_app {ow r : List Own} {k : Nat} (h : (stOf ow k).isSome = true) : stOf (ow ++ r) k = stOf ow k := by
  obtain ⟨u, hu⟩ := Option.isSome_iff_exists.mp h
  rw [hu]
  refine stOf_i ?_
  rw [List.getElem?_append_left (stOf_lt hu)]; exact stOf_e hu
theorem set_app_st {ow r : List Own} {k : Nat} {c : Own} (h : (stOf ow k).isSome = true) : (ow ++ r).set k c = ow.set k c ++ r := by
  obtain ⟨u, hu⟩ := Option.isSome_iff_exists.mp h
  exact List.set_append_left _ _ (stOf_lt hu)
theorem stOf_0 {t : Nat} {r : List Own} : stOf (.st t :: r) 0 = some t := rfl
theorem set_same_st {ow : List Own} {k t : Nat} (h : stOf ow k = some t) : ow.set k (.st t) = ow := by
  refine List.ext_getElem? fun j => ?_
  by_cases hj : k = j
  · subst hj; rw [List.getElem?_set_self (stOf_lt h), stOf_e h]
  · rw [List.getElem?_set_ne hj]
theorem take_len_set {ow : List Own} {k : Nat} {c : Own} : (ow.set k c).take ow.length = ow.set k c := List.take_of_length_le (by rw [List.length_set]; exact Nat.le_refl _)
theorem take_len_set_app {ow r : List Own} {k : Nat} {c : Own} : (ow.set k c ++ r).take ow.length = ow.set k c := by
  rw [List.take_append_of_le_length (by rw [List.length_set]; exact Nat.le_refl _), take_len_set]
theorem take_len_app {ow r : List Own} : (ow ++ r).take ow.length = ow := by
  rw [List.take_append_of_le_length (Nat.le_refl _), List.take_length]
theorem vw_oe {a : AS} {k : Nat} : vw a (.o k) = match a.ow[k]? with | some (.ls xs) => some (.list xs) | _ => none := rfl
theorem depth_i1 (i : Int) : PyData.depth (.int i) ≤ 150 := (by decide : PyData.depth (.int 0) ≤ 150)
theorem lt_i {i j : Int} : CanLt (.int i) (.int j) = True := eq_true ⟨rfl, by simp, Nat.le_trans (Nat.min_le_left _ _) (depth_i1 i)⟩
theorem eq_l {i : Int} {e : D} : CanEq (.int i) e = (e.plain = true) := propext ⟨fun h => h.2.1, fun h => ⟨rfl, h, Nat.le_trans (Nat.min_le_left _ _) (depth_i1 i)⟩⟩
theorem getapp0 {ow : List Own} {c : Own} {r : List Own} : (ow ++ c :: r)[ow.length]? = some c := by simp
theorem getsetapp0 {ow : List Own} {c s : Own} {k : Nat} {r : List Own} : (ow.set k s ++ c :: r)[ow.length]? = some c := by
  rw [List.getElem?_append_right (by simp)]; simp
theorem fLt_i' (i j : Int) : fLt (.int i) (.int j) = decide (i < j) := lt_ints i j
theorem out_lt {a : AS} {k : Nat} : outEv a (.o k) = if k < a.n then some (.o k) else match a.ow[k]? with
    | some (.ls xs) => some (.nl xs)
    | some (.dc kvs) => some (.nd kvs)
    | _ => none := rfl
theorem so_ends {a : AS} {r : Ev} {KQ : Ev → List Own → Prop} {KB : XD → List Own → Prop} : (endsOf KQ KB).rt r a = so (outEv a r) fun r' => KQ r' (a.ow.take a.n) := so_any _ _
theorem nx_ends {a : AS} {KQ : Ev → List Own → Prop} {KB : XD → List Own → Prop} : (endsOf KQ KB).nx a = KQ (.d .none) (a.ow.take a.n) := rfl
theorem xb_ends {a : AS} {x : XD} {KQ : Ev → List Own → Prop} {KB : XD → List Own → Prop} : (endsOf KQ KB).xb x a = KB x (a.ow.take a.n) := rfl
theorem out_v {a : AS} {v : V} : outEv a (.v v) = some (.v v) := rfl
theorem keep_v {v : V} : keep (.v v) = some (.v v) := rfl
theorem ts_v {v : V} {rs : List Ev} : toSls (.v v :: rs) = (toSls rs).map (.v v :: ·) := by
  show (match keep (.v v), toSls rs with | some d, some ds => some (d :: ds) | _, _ => none) = _
  rw [keep_v]; cases toSls rs <;> rfl
theorem later_i {w : WS} {a : AS} {A : AE} (h : w a A) : later w a A := h
end DL
namespace DL
open PySem PySem.Spec PyProof.Rows L2
abbrev ct_law_draw : Ct := ctDraw
theorem e_law_draw {ow : List Own} {KQ : Ev → List Own → Prop} {KB : XD → List Own → Prop} {k : Nat} {size : Int} : ctDraw [.o k, .d (.int size)] ow KQ KB = (so (stOf ow k) fun t => side (0 < size ∧ size ≤ 100000 ∧ t < 10 ^ 9) (∀ r : Nat, (r : Int) < size → KQ (.d (.int r)) (ow.set k (.st (t + 1))))) :=
  propext ⟨fun ⟨k, t, s, e, h, h1, h2, h3, q⟩ => by cases e; rw [stOf_i h]; exact ⟨⟨h1, h2, h3⟩, q⟩, fun h => by
    rw [← so_any] at h
    obtain ⟨t, ht, ⟨h1, h2, h3⟩, q⟩ := h
    exact ⟨k, t, size, rfl, stOf_e ht, h1, h2, h3, q⟩⟩
end DL
namespace DL
open PySem PySem.Spec PyProof.Rows L2
section
variable {xs : List D} {i : Int} {b : Bool} {s : Str} {kvs : List (D × D)}
theorem isT_t : PyData.isTuple (.tuple xs) = true := rfl
theorem isT_l : PyData.isTuple (.list xs) = false := rfl
theorem isT_i : PyData.isTuple (.int i) = false := rfl
theorem isT_b : PyData.isTuple (.bool b) = false := rfl
theorem isT_s : PyData.isTuple (.str s) = false := rfl
theorem isT_n : PyData.isTuple .none = false := rfl
theorem isT_d : PyData.isTuple (.dict kvs) = false := rfl
theorem isI_i : PyData.isInt (.int i) = true := rfl
theorem isI_b : PyData.isInt (.bool b) = true := rfl
theorem isB_i : PyData.isBool (.int i) = false := rfl
theorem isB_b : PyData.isBool (.bool b) = true := rfl
theorem isL_t : PyData.isList (.tuple xs) = false := rfl
theorem isL_l : PyData.isList (.list xs) = true := rfl
theorem isD_d : PyData.isDict (.dict kvs) = true := rfl
theorem isD_l : PyData.isDict (.list xs) = false := rfl
theorem isD_t : PyData.isDict (.tuple xs) = false := rfl
theorem rng_len (lo : Int) (n : Nat) : (rangeD lo n).length = n := by unfold rangeD; simp
theorem toNat_sub0 (n : Int) : (n - 0).toNat = n.toNat := by rw [Int.sub_zero]
end
end DL
namespace DL
open PySem PySem.Spec PyProof.Rows L2
theorem wipe_nil {sl : List Sl} : wipeS sl [] = sl := rfl
theorem wipe_cons {sl : List Sl} {v : Nat} {vs : List Nat} : wipeS sl (v :: vs) = (wipeS sl vs).set v .un := rfl
theorem atI_0 {x : D} {xs : List D} : atI (x :: xs) 0 = some x := by
  unfold atI ixN; rw [if_pos (by omega), if_pos (by simp only [List.length_cons]; omega)]; rfl
theorem atI_1 {x y : D} {xs : List D} : atI (x :: y :: xs) 1 = some y := by
  unfold atI ixN; rw [if_pos (by omega), if_pos (by simp only [List.length_cons]; omega)]; rfl
theorem atI_2 {x y z : D} {xs : List D} : atI (x :: y :: z :: xs) 2 = some z := by
  unfold atI ixN; rw [if_pos (by omega), if_pos (by simp only [List.length_cons]; omega)]; rfl
theorem atI_3 {x y z u : D} {xs : List D} : atI (x :: y :: z :: u :: xs) 3 = some u := by
  unfold atI ixN; rw [if_pos (by omega), if_pos (by simp only [List.length_cons]; omega)]; rfl
theorem atI_lt {xs : List D} {r : Nat} (h : r < xs.length) : atI xs (r : Int) = some (xs.getD r .none) := by
  rw [atI_nat h, List.getD_eq_getElem?_getD, List.getElem?_eq_getElem h]; rfl
theorem atI_int {xs : List D} {r : Int} (h0 : 0 ≤ r) (h : r < xs.length) : atI xs r = some (xs.getD r.toNat .none) := by
  obtain ⟨n, rfl⟩ : ∃ n : Nat, r = n := ⟨r.toNat, by omega⟩
  rw [atI_lt (by omega)]; rfl
theorem atI_neg {xs : List D} {r : Int} (h0 : r < 0) (h : -(xs.length : Int) ≤ r) : atI xs r = some (xs.getD (r + xs.length).toNat .none) := by
  unfold atI ixN
  rw [if_neg (by omega), if_pos h]
  show xs[(r + (xs.length : Int)).toNat]? = _
  rw [List.getD_eq_getElem?_getD, List.getElem?_eq_getElem (by omega)]; rfl
def PureStep (wg : WG) (wt : WT) (we : WE) (vs : List Nat) (a : AS) (p : D → Bool) (f : D → D) (x : D) : Prop :=
  ∀ (N : List Own → Prop) (Y : D → List Own → Prop), (p x = false → N a.ow) → (p x = true → Y (f x) a.ow) → wg x { a with sl := wipeS a.sl vs } (fun a3 => wt a3 (fun b a4 =>
    br b (we a4 (fun r a5 => so (frz r) fun y => Y y a5.ow) (fun _ _ => False)) (N a4.ow)) (fun _ _ => False))
theorem comp_pure (p : D → Bool) (f : D → D) {wg : WG} {wt : WT} {we : WE} {vs : List Nat} {a : AS} {K : Ev → AS → Prop} {xs : List D} (hl : xs.length ≤ 100000) (h : ∀ x ∈ xs, PureStep wg wt we vs a p f x)
    (q : K (.nl ((xs.filter p).map f)) a) : Comp xs wg wt we vs a K := by
  refine ⟨hl, fun i acc ow => ow = a.ow ∧ acc = ((xs.take i).filter p).map f, ⟨rfl, rfl⟩, ?_, ?_⟩
  · rintro acc ow ⟨rfl, rfl⟩
    rw [List.take_length]
    exact q
  · rintro k x acc ow hx ⟨rfl, rfl⟩
    refine h x (List.mem_of_getElem? hx) (fun ow => ow = a.ow ∧ _ = _) (fun y ow => ow = a.ow ∧ _ = _) (fun z => ⟨rfl, ?_⟩) fun z => ⟨rfl, ?_⟩
    · rw [List.take_add_one, hx, List.filter_append, List.map_append]
      simp only [Option.toList_some, List.filter_cons, z, Bool.false_eq_true, if_false, List.filter_nil, List.map_nil, List.append_nil]
    · rw [List.take_add_one, hx, List.filter_append, List.map_append]
      simp only [Option.toList_some, List.filter_cons, z, if_true, List.filter_nil, List.map_cons, List.map_nil]
theorem comp_map (f : D → D) {wg : WG} {we : WE} {vs : List Nat} {a : AS} {K : Ev → AS → Prop} {xs : List D} (hl : xs.length ≤ 100000) (h : ∀ x ∈ xs, PureStep wg wYes we vs a (fun _ => true) f x)
    (q : K (.nl (xs.map f)) a) : Comp xs wg wYes we vs a K :=
  comp_pure (fun _ => true) f hl h (by rw [List.filter_eq_self.mpr (fun _ _ => rfl)]; exact q)
theorem paired_app {α β : Type} {P : α → β → Prop} {xs ys : List α} {us vs : List β} (h : Paired P xs us) (k : Paired P ys vs) : Paired P (xs ++ ys) (us ++ vs) := by
  induction h with
  | nil => exact k
  | cons a _ ih => exact .cons a ih
theorem paired_len {α β : Type} {P : α → β → Prop} {xs : List α} {us : List β} (h : Paired P xs us) : xs.length = us.length := by
  induction h with
  | nil => rfl
  | cons a _ ih => rw [List.length_cons, List.length_cons, ih]
theorem paired_all {α β : Type} {P : α → β → Prop} {xs : List α} {us : List β} (h : Paired P xs us) : ∀ u ∈ us, ∃ x ∈ xs, P x u := by
  induction h with
  | nil => intro u hu; cases hu
  | cons a _ ih =>
    intro u hu
    rcases List.mem_cons.mp hu with z | z
    · subst z; exact ⟨_, List.mem_cons_self .., a⟩
    · obtain ⟨x, hx, k⟩ := ih u z; exact ⟨x, List.mem_cons_of_mem _ hx, k⟩
def DrawStep (wg : WG) (we : WE) (vs : List Nat) (a : AS) (o : List Own) (k c : Nat) (P : D → D → Prop) (x : D) (t : Nat) : Prop :=
  ∀ (Y : D → List Own → Prop), (∀ y t2, P x y → t2 ≤ t + c → Y y (o.set k (.st t2))) → wg x { a with sl := wipeS a.sl vs, ow := o.set k (.st t) } (fun a3 => we a3 (fun r a5 => so (frz r) fun y => Y y a5.ow) (fun _ _ => False))
theorem comp_draw (o : List Own) (k t c : Nat) (P : D → D → Prop) {wg : WG} {we : WE} {vs : List Nat} {a : AS} {K : Ev → AS → Prop} {xs : List D} (hl : xs.length ≤ 100000) (hs : a.ow = o.set k (.st t))
    (h : ∀ x ∈ xs, ∀ t', t' ≤ t + xs.length * c → t' + c ≤ t + xs.length * c → DrawStep wg we vs a o k c P x t')
    (q : ∀ ys t', Paired P xs ys → t' ≤ t + xs.length * c → K (.nl ys) { a with ow := o.set k (.st t') }) : Comp xs wg wYes we vs a K := by
  refine ⟨hl, fun i acc ow => ∃ t', ow = o.set k (.st t') ∧ t' ≤ t + i * c ∧ Paired P (xs.take i) acc, ⟨t, hs, by omega, .nil⟩, ?_, ?_⟩
  · rintro acc ow ⟨t', rfl, ht, hp⟩
    rw [List.take_length] at hp
    exact q acc t' hp ht
  · rintro i x acc ow hx ⟨t', rfl, ht, hp⟩
    have hi : i < xs.length := (List.getElem?_eq_some_iff.mp hx).1
    have hm : (i + 1) * c ≤ xs.length * c := Nat.mul_le_mul_right c hi
    rw [Nat.add_mul, Nat.one_mul] at hm
    have z := h x (List.mem_of_getElem? hx) t' (by omega) (by omega) (fun y ow => ∃ t', ow = o.set k (.st t') ∧ t' ≤ t + (i + 1) * c ∧ Paired P (xs.take (i + 1)) (acc ++ [y])) fun y t2 py h2 => ⟨t2, rfl, by rw [Nat.add_mul]; omega, ?_⟩
    · have e : (fun a3 => wYes a3 (fun b a4 => br b (we a4 (fun r a5 => so (frz r) fun y => ∃ t', a5.ow = o.set k (.st t') ∧ t' ≤ t + (i + 1) * c ∧ Paired P (xs.take (i + 1)) (acc ++ [y])) (fun _ _ => False)) (∃ t', a4.ow = o.set k (.st t') ∧ t' ≤ t + (i + 1) * c ∧ Paired P (xs.take (i + 1)) acc)) (fun _ _ => False)) =
          fun a3 => we a3 (fun r a5 => so (frz r) fun y => ∃ t', a5.ow = o.set k (.st t') ∧ t' ≤ t + (i + 1) * c ∧ Paired P (xs.take (i + 1)) (acc ++ [y])) (fun _ _ => False) := by
        funext a3; exact br_t _ _
      show wg x _ (fun a3 => wYes a3 _ _)
      rw [e]
      exact z
    · rw [List.take_add_one, hx]
      exact paired_app hp (.cons py .nil)
theorem compS_pure (f : D → Int) {wg : WG} {we : WE} {vs : List Nat} {a : AS} {K : Ev → AS → Prop} {xs : List D} (hl : xs.length ≤ 4000)
    (h : ∀ x ∈ xs, ∀ Y : Int → List Own → Prop, Y (f x) a.ow → wg x { a with sl := wipeS a.sl vs } (fun a3 => we a3 (fun r a5 => so (inD (vw a5 r)) fun y => Y y a5.ow) (fun _ _ => False)))
    (q : K (.d (.int (distinct (xs.map f) : Nat))) a) : CompS xs wg wYes we vs a K := by
  refine ⟨hl, fun i ks ow => ow = a.ow ∧ ks = ((xs.take i).map f).foldl step_dedup [], ⟨rfl, rfl⟩, ?_, ?_⟩
  · rintro ks ow ⟨rfl, rfl⟩
    rw [List.take_length]
    exact q
  · rintro k x ks ow hx ⟨rfl, rfl⟩
    have z := h x (List.mem_of_getElem? hx) (fun y ow => ow = a.ow ∧ step_dedup (((xs.take k).map f).foldl step_dedup []) y = ((xs.take (k + 1)).map f).foldl step_dedup []) ⟨rfl, ?_⟩
    · have e : (fun a3 => wYes a3 (fun b a4 => br b (we a4 (fun r a5 => so (inD (vw a5 r)) fun y => a5.ow = a.ow ∧ step_dedup (((xs.take k).map f).foldl step_dedup []) y = ((xs.take (k + 1)).map f).foldl step_dedup []) (fun _ _ => False)) (a4.ow = a.ow ∧ ((xs.take k).map f).foldl step_dedup [] = ((xs.take (k + 1)).map f).foldl step_dedup [])) (fun _ _ => False)) =
          fun a3 => we a3 (fun r a5 => so (inD (vw a5 r)) fun y => a5.ow = a.ow ∧ step_dedup (((xs.take k).map f).foldl step_dedup []) y = ((xs.take (k + 1)).map f).foldl step_dedup []) (fun _ _ => False) := by
        funext a3; exact br_t _ _
      show wg x _ (fun a3 => wYes a3 _ _)
      rw [e]
      exact z
    · rw [List.take_add_one, hx, List.map_append, List.foldl_append]
      rfl
theorem loop_inv {xs : List D} {wg : WG} {wb : WS} {a : AS} {A : AE} (I : Nat → AS → Prop) (h0 : I 0 a) (he : ∀ a2, I xs.length a2 → A.nx a2)
    (hs : ∀ i x a2, xs[i]? = some x → I i a2 → wg x a2 (fun a3 => wb a3 { A with nx := I (i + 1), ct := I (i + 1), bk := A.nx })) : Loop xs wg wb a A := ⟨I, h0, he, hs⟩
theorem loop_all (j : Nat) (p : D → Bool) {xs : List D} {wb : WS} {a : AS} {A : AE} (hj : j < a.sl.length)
    (hs : ∀ x ∈ xs, ∀ sl, (∃ s, sl = a.sl.set j s) → ∀ (N : AS → Prop), (p x = true → N { a with sl := sl.set j (.d x) }) → (p x = false → xs.all p = false) → wb { a with sl := sl.set j (.d x) } { A with nx := N, ct := N, bk := A.nx })
    (he : xs.all p = true → ∀ s, A.nx { a with sl := a.sl.set j s }) : Loop xs (wgName j) wb a A := by
  refine ⟨fun i a2 => (∀ y ∈ xs.take i, p y = true) ∧ ∃ s, a2 = { a with sl := a.sl.set j s }, ⟨by simp, a.sl[j], ?_⟩, ?_, ?_⟩
  · rw [List.set_getElem_self]
  · rintro _ ⟨h, s, rfl⟩
    rw [List.take_length] at h
    exact he (List.all_eq_true.mpr h) s
  · rintro i x _ hx ⟨h, s, rfl⟩
    refine hs x (List.mem_of_getElem? hx) (a.sl.set j s) ⟨s, rfl⟩ _ (fun z => ⟨?_, .d x, ?_⟩) fun z => ?_
    · intro y hy
      rw [List.take_add_one, hx] at hy
      rcases List.mem_append.mp hy with q | q
      · exact h y q
      · simp at q; subst q; exact z
    · rw [List.set_set]
    · rw [List.all_eq_false]
      exact ⟨x, List.mem_of_getElem? hx, by simp [z]⟩
end DL
namespace DL
open PySem PySem.Spec PyProof.Rows L2
theorem so_e {α : Type} {o : Option α} {F : α → Prop} (h : so o F) : ∃ x, o = some x ∧ F x := by rw [← so_any] at h; exact h
def pairsO : List D → Option (List (Int × Int))
  | [] => some []
  | x :: xs => match asPair x, pairsO xs with
    | some p, some ps => some (p :: ps)
    | _, _ => none
theorem pairsO_m : ∀ ps : List (Int × Int), pairsO (ps.map pD) = some ps
  | [] => rfl
  | p :: ps => by
    show (match asPair (pD p), pairsO (ps.map pD) with | some p, some ps => some (p :: ps) | _, _ => none) = _
    rw [pairsO_m ps]; rfl
theorem pairsO_e : ∀ {xs : List D} {ps : List (Int × Int)}, pairsO xs = some ps → xs = ps.map pD
  | [], _, h => by cases h; rfl
  | x :: xs, ps, h => by
    unfold pairsO at h
    split at h
    · next p qs h1 h2 => cases h; rw [asPair_eq h1, pairsO_e h2]; rfl
    · cases h
def plD (ps : List (Int × Int)) : D := .tuple (ps.map pD)
def asPlan : D → Option (List (Int × Int))
  | .tuple xs => pairsO xs
  | _ => none
theorem asPlan_m (ps : List (Int × Int)) : asPlan (plD ps) = some ps := pairsO_m ps
theorem asPlan_e {d : D} {ps : List (Int × Int)} (h : asPlan d = some ps) : d = plD ps := by
  cases d with
  | tuple xs => unfold plD; rw [← pairsO_e h]
  | _ => cases h
def plansO : List D → Option (List (List (Int × Int)))
  | [] => some []
  | x :: xs => match asPlan x, plansO xs with
    | some p, some ps => some (p :: ps)
    | _, _ => none
theorem plansO_m : ∀ ps : List (List (Int × Int)), plansO (ps.map plD) = some ps
  | [] => rfl
  | p :: ps => by
    show (match asPlan (plD p), plansO (ps.map plD) with | some p, some ps => some (p :: ps) | _, _ => none) = _
    rw [plansO_m ps, asPlan_m]
theorem plansO_e : ∀ {xs : List D} {ps : List (List (Int × Int))}, plansO xs = some ps → xs = ps.map plD
  | [], _, h => by cases h; rfl
  | x :: xs, ps, h => by
    unfold plansO at h
    split at h
    · next p qs h1 h2 => cases h; rw [asPlan_e h1, plansO_e h2]; rfl
    · cases h
def bkD (b : List (List (Int × Int))) : D := .tuple (b.map plD)
end DL
namespace DL
open PySem PySem.Spec PyProof.Rows L2
theorem asPlan_t (ps : List (Int × Int)) : asPlan (.tuple (ps.map pD)) = some ps := pairsO_m ps
theorem asPair_m (p : Int × Int) : asPair (pD p) = some p := rfl
theorem seD_bk (b : List (List (Int × Int))) : seD (some (bkD b)) = some (b.map plD) := rfl
end DL
namespace DL
open PySem PySem.Spec PyProof.Rows L2
theorem erase_perm {α : Type} : ∀ {xs : List α} {i : Nat} (h : i < xs.length), (xs[i] :: xs.eraseIdx i).Perm xs
  | x :: xs, 0, _ => by simp
  | x :: xs, i + 1, h => by
    have ih := erase_perm (xs := xs) (i := i) (by simpa using h)
    simp only [List.getElem_cons_succ, List.eraseIdx_cons_succ]
    exact (List.Perm.swap _ _ _).trans (ih.cons _)
theorem cell0 {ow r : List Own} {k t : Nat} {c : Own} : (ow.set k (.st t) ++ c :: r)[ow.length]? = some c := getsetapp0
theorem cell1 {ow r : List Own} {k t : Nat} {c d : Own} : (ow.set k (.st t) ++ c :: d :: r)[ow.length + 1]? = some d := by
  rw [List.getElem?_append_right (by simp)]; simp
theorem cset0 {ow r : List Own} {k t : Nat} {c d : Own} : (ow.set k (.st t) ++ c :: r).set ow.length d = ow.set k (.st t) ++ d :: r := by
  have e : ow.length = (ow.set k (.st t)).length := by rw [List.length_set]
  rw [List.set_append_right _ _ (by rw [e]; exact Nat.le_refl _), ← e, Nat.sub_self]; rfl
theorem cset1 {ow r : List Own} {k t : Nat} {c d e : Own} : (ow.set k (.st t) ++ c :: d :: r).set (ow.length + 1) e = ow.set k (.st t) ++ c :: e :: r := by
  have z : ow.length = (ow.set k (.st t)).length := by rw [List.length_set]
  rw [List.set_append_right _ _ (by rw [← z]; omega), ← z, Nat.add_sub_cancel_left]; rfl
theorem cset0' {ow r : List Own} {c d : Own} : (ow ++ c :: r).set ow.length d = ow ++ d :: r := by
  rw [List.set_append_right _ _ (Nat.le_refl _), Nat.sub_self]; rfl
theorem u_meth {g : GM} {wo : WE} {wa : WA} {a : AS} {K : Ev → AS → Prop} {B : XD → AS → Prop} : wMeth g wo wa a K B = wo a (fun r a1 => so (match r with | .o k => some k | _ => none) fun k => so (a1.ow[k]?) fun c => side (wMeth.isLs c = true) (wa a1 (fun xs a2 => g a2 k xs K) B)) B := by
  unfold wMeth
  congr 1; funext r a1
  refine propext ⟨fun ⟨k, e, ⟨c, h1, h2⟩, q⟩ => ?_, fun h => ?_⟩
  · subst e
    show so (a1.ow[k]?) _
    rw [h1]
    exact ⟨h2, q⟩
  · match r, h with
    | .o k, h =>
      obtain ⟨c, h1, h2, q⟩ := so_e (α := Own) (o := a1.ow[k]?) h
      exact ⟨k, rfl, ⟨c, h1, h2⟩, q⟩
theorem isLs_ls {xs : List D} : (wMeth.isLs (.ls xs) = true) = True := eq_true rfl
def lsAt (ow : List Own) (k : Nat) : Option (List D) := match ow[k]? with
  | some (.ls xs) => some xs
  | _ => none
theorem so_lsAt (ow : List Own) (k : Nat) (F : List D → Prop) : (∃ xs, ow[k]? = some (.ls xs) ∧ F xs) = so (lsAt ow k) F := propext ⟨fun ⟨xs, e, q⟩ => by
    unfold lsAt; rw [e]; exact q, fun h => by
  unfold lsAt at h
  split at h
  · next xs e => exact ⟨xs, e, h⟩
  · exact h.elim⟩
theorem lsAt_of {ow : List Own} {k : Nat} {xs : List D} (h : ow[k]? = some (.ls xs)) : lsAt ow k = some xs := by unfold lsAt; rw [h]
theorem ls0 {ow r : List Own} {k t : Nat} {xs : List D} : lsAt (ow.set k (.st t) ++ .ls xs :: r) ow.length = some xs := lsAt_of cell0
theorem ls0' {ow r : List Own} {xs : List D} : lsAt (ow ++ .ls xs :: r) ow.length = some xs := lsAt_of getapp0
theorem ls1 {ow r : List Own} {k t : Nat} {c : Own} {xs : List D} : lsAt (ow.set k (.st t) ++ c :: .ls xs :: r) (ow.length + 1) = some xs := lsAt_of cell1
theorem u_append {a : AS} {k : Nat} {x : Ev} {K : Ev → AS → Prop} : gAppend a k [x] K = so (frz x) fun d => so (lsAt a.ow k) fun ys => side (ys.length ≤ 100000) (K (.d .none) { a with ow := a.ow.set k (.ls (ys ++ [d])) }) := by
  unfold gAppend
  refine propext ⟨fun ⟨x', d, ys, e, h1, h2, h3, q⟩ => ?_, fun h => ?_⟩
  · cases e; rw [h1, so_s, ← so_lsAt]; exact ⟨ys, h2, h3, q⟩
  · obtain ⟨d, h1, h⟩ := so_e h
    rw [← so_lsAt] at h
    obtain ⟨ys, h2, h3, q⟩ := h
    exact ⟨x, d, ys, rfl, h1, h2, h3, q⟩
def ixL (i : Int) (n : Nat) : Option Nat := if -(2 ^ 63) ≤ i ∧ i < 2 ^ 63 then seqIndex? i n else none
theorem u_popAt {a : AS} {k : Nat} {x : Ev} {K : Ev → AS → Prop} : gPopAt a k [x] K = so (inD (vw a x)) fun i => so (lsAt a.ow k) fun ys => so (ixL i ys.length) fun j => so (ys[j]?) fun d => K (.d d) { a with ow := a.ow.set k (.ls (ys.eraseIdx j)) } := by
  unfold gPopAt
  refine propext ⟨fun ⟨x', i, ys, d, j, e, h1, h2, h3, h4, h5, h6, q⟩ => ?_, fun h => ?_⟩
  · cases e
    rw [← so_in]; refine ⟨i, h1, ?_⟩
    rw [← so_lsAt]; refine ⟨ys, h2, ?_⟩
    unfold ixL
    rw [if_pos ⟨h3, h4⟩, h5, so_s, h6]; exact q
  · rw [← so_in] at h; obtain ⟨i, h1, h⟩ := h
    rw [← so_lsAt] at h; obtain ⟨ys, h2, h⟩ := h
    obtain ⟨j, h5, h⟩ := so_e h
    obtain ⟨d, h6, q⟩ := so_e h
    unfold ixL at h5
    split at h5
    · next hh => exact ⟨x, i, ys, d, j, rfl, h1, h2, hh.1, hh.2, h5, h6, q⟩
    · cases h5
theorem ixL_nat {r n : Nat} (h : r < n) (hn : n ≤ 1000000) : ixL (r : Int) n = some r := by
  unfold ixL
  rw [if_pos (by omega)]
  unfold seqIndex?
  have hneg : ¬ ((r : Int) < 0) := by omega
  simp [hneg]
  omega
theorem zipD_ints : ∀ as bs : List Int, zipD (as.map PyData.int) (bs.map PyData.int) = (as.zip bs).map pD
  | [], _ => by simp [zipD]
  | _ :: _, [] => by simp [zipD]
  | a :: as, b :: bs => by
    have h := zipD_ints as bs
    unfold zipD at h ⊢
    simp only [List.map_cons, List.zipWith_cons_cons, List.zip_cons_cons, h]
    rfl
theorem cut_head (xs : List D) {m : Int} (h : 0 ≤ m) : cutD xs none (some m) = xs.take m.toNat := by
  unfold cutD
  show (xs.drop 0).take ((if m < 0 then (m + (xs.length : Int)).toNat else min m.toNat xs.length) - 0) = _
  rw [if_neg (by omega), List.drop_zero, Nat.sub_zero]
  by_cases h2 : m.toNat ≤ xs.length
  · rw [Nat.min_eq_left h2]
  · rw [Nat.min_eq_right (by omega), List.take_length, List.take_of_length_le (by omega)]
theorem cut_tail (xs : List D) {m : Int} (h : 0 ≤ m) : cutD xs (some m) none = xs.drop m.toNat := by
  unfold cutD
  show (xs.drop (if m < 0 then (m + (xs.length : Int)).toNat else min m.toNat xs.length)).take (xs.length - (if m < 0 then (m + (xs.length : Int)).toNat else min m.toNat xs.length)) = _
  rw [if_neg (by omega)]
  by_cases h2 : m.toNat ≤ xs.length
  · rw [Nat.min_eq_left h2, List.take_of_length_le (by simp)]
  · rw [Nat.min_eq_right (by omega), List.drop_of_length_le (by omega), List.drop_of_length_le (by omega), List.take_nil]
theorem sIx_neg1 (n d : Nat) : HT.sIx n d (some (-1)) = n - 1 := by
  unfold HT.sIx
  simp only
  rw [if_pos (by omega)]; omega
theorem sIx_non (n d : Nat) : HT.sIx n d none = d := rfl
theorem cut_last (xs : List D) : cutD xs (some (-1)) none = xs.drop (xs.length - 1) := by
  unfold cutD
  rw [sIx_neg1, sIx_non, List.take_of_length_le (by simp)]
theorem cut_front (xs : List D) : cutD xs none (some (-1)) = xs.take (xs.length - 1) := by
  unfold cutD
  rw [sIx_neg1, sIx_non, List.drop_zero, Nat.sub_zero]
def ups (n : Nat) : List Int := (List.range n).map fun i : Nat => (i : Int)
theorem range_ups (n : Nat) : rangeD 0 n = (ups n).map PyData.int := by
  unfold rangeD ups
  rw [List.map_map]
  exact List.map_congr_left fun i _ => by show PyData.int (0 + (i : Int)) = _; rw [Int.zero_add]; rfl
theorem ups_len (n : Nat) : (ups n).length = n := by unfold ups; simp
theorem mem_ups {n : Nat} {x : Int} : x ∈ ups n ↔ 0 ≤ x ∧ x < n := by
  unfold ups
  rw [List.mem_map]
  constructor
  · rintro ⟨i, hi, rfl⟩; have := List.mem_range.mp hi; omega
  · intro h; exact ⟨x.toNat, List.mem_range.mpr (by omega), by omega⟩
theorem ups_nodup (n : Nat) : (ups n).Nodup := by
  unfold ups
  rw [List.nodup_iff_pairwise_ne, List.pairwise_map]
  exact (List.nodup_iff_pairwise_ne.mp List.nodup_range).imp fun {a b} h => by omega
theorem ints_of_perm {zs : List D} {ns : List Int} (h : zs.Perm (ns.map PyData.int)) : ∃ ms : List Int, zs = ms.map PyData.int ∧ ms.Perm ns := by
  have go : ∀ zs : List D, (∀ z ∈ zs, ∃ i, z = .int i) → ∃ ms : List Int, zs = ms.map PyData.int := by
    intro zs
    induction zs with
    | nil => intro _; exact ⟨[], rfl⟩
    | cons z zs ih =>
      intro h
      obtain ⟨i, rfl⟩ := h z (List.mem_cons_self ..)
      obtain ⟨ms, rfl⟩ := ih fun y hy => h y (List.mem_cons_of_mem _ hy)
      exact ⟨i :: ms, rfl⟩
  obtain ⟨ms, rfl⟩ := go zs fun z hz => by
    obtain ⟨i, _, e⟩ := List.mem_map.mp (h.mem_iff.mp hz)
    exact ⟨i, e.symm⟩
  refine ⟨ms, rfl, ?_⟩
  have h2 := h.map (fun d : D => match d with | .int i => i | _ => 0)
  rw [List.map_map, List.map_map] at h2
  have e : ∀ l : List Int, l.map ((fun d : D => match d with | .int i => i | _ => 0) ∘ PyData.int) = l := fun l => by
    conv => rhs; rw [← List.map_id l]
    exact List.map_congr_left fun _ _ => rfl
  rwa [e, e] at h2
theorem depth_ints (ns : List Int) : PyData.depthAll (ns.map PyData.int) ≤ 1 := by
  induction ns with
  | nil => exact Nat.zero_le _
  | cons p ps ih => exact Nat.max_le.mpr ⟨Nat.zero_le _, ih⟩
theorem canIn_ints (i : Int) (ns : List Int) : CanIn (.int i) (ns.map PyData.int) := ⟨rfl, plain_ints ns, Nat.le_trans (depth_ints ns) (by decide)⟩
theorem any_ints (i : Int) (ns : List Int) : ((ns.map PyData.int).any fun z => PyData.eqv z (.int i)) = decide (i ∈ ns) := by
  induction ns with
  | nil => rfl
  | cons n ns ih =>
    rw [List.map_cons, List.any_cons, ih, eqv_i]
    by_cases h : n = i
    · subst h; simp
    · have h' : ¬ i = n := fun e => h e.symm
      simp [h, h']
theorem nodup_sub_len {xs ys : List Int} (h : xs.Nodup) (s : ∀ x ∈ xs, x ∈ ys) : xs.length ≤ ys.length := by
  induction xs generalizing ys with
  | nil => exact Nat.zero_le _
  | cons x xs ih =>
    rw [List.nodup_cons] at h
    have hx := s x (List.mem_cons_self ..)
    have := ih (ys := ys.erase x) h.2 fun y hy => (List.mem_erase_of_ne (fun e => h.1 (by rw [← e]; exact hy))).mpr (s y (List.mem_cons_of_mem _ hy))
    rw [List.length_erase, if_pos hx] at this
    have := List.length_pos_of_mem hx
    simp only [List.length_cons]; omega
theorem left_over {n : Nat} {ns : List Int} (h : ns.length < n) : (ups n).filter (fun x => !decide (x ∈ ns)) ≠ [] := fun e => by
  have all : ∀ x ∈ ups n, x ∈ ns := fun x hx => by
    have := List.filter_eq_nil_iff.mp e x hx
    simpa using this
  have : (ups n).length ≤ ns.length := nodup_sub_len (ups_nodup n) all
  rw [ups_len] at this
  omega
end DL
namespace DL
open PySem PySem.Spec PyProof.Rows L2
def NoA (k : Nat) : List Sl → Prop
  | [] => True
  | s :: sl => wFrz.noCell k s = true ∧ NoA k sl
theorem NoA.mem {k : Nat} : ∀ {sl : List Sl}, NoA k sl → ∀ s ∈ sl, wFrz.noCell k s = true
  | s' :: sl, h, s, m => by
    rcases List.mem_cons.mp m with z | z
    · subst z; exact h.1
    · exact NoA.mem h.2 s z
def NoC (k : Nat) : Nat → List Sl → Prop
  | _, [] => True
  | 0, _ :: sl => NoA k sl
  | i + 1, s :: sl => wFrz.noCell k s = true ∧ NoC k i sl
theorem NoC.at {k : Nat} : ∀ {i : Nat} {sl : List Sl}, NoC k i sl → ∀ j s, sl[j]? = some s → j ≠ i → wFrz.noCell k s = true
  | _, [], _, j, s, h, _ => by simp at h
  | 0, _ :: sl, h, j + 1, s, e, _ => h.mem s (List.mem_of_getElem? (by simpa using e))
  | 0, _ :: sl, h, 0, s, e, n => absurd rfl n
  | i + 1, s' :: sl, h, 0, s, e, _ => by simp at e; subst e; exact h.1
  | i + 1, s' :: sl, h, j + 1, s, e, n => NoC.at h.2 j s (by simpa using e) (fun z => n (by rw [z]))
def celO : Option Sl → Option Nat
  | some (.o k) => some k
  | _ => none
theorem celO_o (k : Nat) : celO (some (.o k)) = some k := rfl
theorem frz_i {i : Nat} {w : WS} {a : AS} {A : AE} (h : so (celO (a.sl[i]?)) fun k => so (lsAt a.ow k) fun xs => side (a.n ≤ k ∧ NoC k i a.sl) (w { a with sl := a.sl.set i (.d (.list xs)), ow := a.ow.set k .gone } A)) : wFrz i w a A := by
  obtain ⟨k, hk, h⟩ := so_e h
  rw [← so_lsAt] at h
  obtain ⟨xs, hx, ⟨h1, h2⟩, h⟩ := h
  refine ⟨k, xs, ?_, hx, h1, h2.at, h⟩
  unfold celO at hk
  split at hk
  · next k' e => cases hk; exact e
  · cases hk
end DL
namespace DL
open PySem PySem.Spec PyProof.Rows L2
theorem noC_d {k : Nat} {x : D} : (wFrz.noCell k (.d x) = true) = True := eq_true rfl
theorem noC_u {k : Nat} : (wFrz.noCell k .un = true) = True := eq_true rfl
theorem noC_v {k : Nat} {v : V} : (wFrz.noCell k (.v v) = true) = True := eq_true rfl
theorem noC_o {k j : Nat} : (wFrz.noCell k (.o j) = true) = (j ≠ k) := by
  show ((j != k) = true) = _
  simp
theorem NoC_s {k i : Nat} {s : Sl} {sl : List Sl} : NoC k (i + 1) (s :: sl) = (wFrz.noCell k s = true ∧ NoC k i sl) := rfl
theorem NoC_0 {k : Nat} {s : Sl} {sl : List Sl} : NoC k 0 (s :: sl) = NoA k sl := rfl
theorem NoA_s {k : Nat} {s : Sl} {sl : List Sl} : NoA k (s :: sl) = (wFrz.noCell k s = true ∧ NoA k sl) := rfl
theorem NoA_n {k : Nat} : NoA k [] = True := rfl
end DL
namespace DL
open PySem PySem.Spec PyProof.Rows L2
theorem le_size {n : Nat} (h : n ≤ 1000000) : n ≤ sizeLine := by rw [sizeLine_eq]; omega
theorem snoc_pD (l : List (Int × Int)) (i j : Int) : l.map pD ++ [.tuple [.int i, .int j]] = (l ++ [(i, j)]).map pD := by rw [List.map_append]; rfl
end DL
namespace DL
open PySem PySem.Spec PyProof.Rows L2
def tuO : D → Option (List D)
  | .tuple ds => some ds
  | _ => none
theorem tuO_t (ds : List D) : tuO (.tuple ds) = some ds := rfl
theorem u_gtup {n : Nat} {ws : WGs} {d : D} {a : AS} {K : AS → Prop} : wgTup n ws d a K = so (tuO d) fun ds => side (ds.length = n) (ws ds a K) := by
  unfold wgTup
  refine propext ⟨fun ⟨ds, e, h⟩ => by subst e; exact h, fun h => ?_⟩
  match d, h with
  | .tuple ds, h => exact ⟨ds, rfl, h.1, h.2⟩
theorem u_gcons {w : WG} {ws : WGs} {d : D} {r : List D} {a : AS} {K : AS → Prop} : wgCons w ws (d :: r) a K = w d a (fun a' => ws r a' K) :=
  propext ⟨fun ⟨_, _, e, h⟩ => by cases e; exact h, fun h => ⟨d, r, rfl, h⟩⟩
theorem u_gnil {a : AS} {K : AS → Prop} : wgNil [] a K = K a := propext ⟨fun h => h.2, fun h => ⟨rfl, h⟩⟩
end DL
namespace DL
open PySem PySem.Spec PyProof.Rows L2
theorem asPair_t (a b : Int) : asPair (.tuple [.int a, .int b]) = some (a, b) := rfl
theorem mid_pD (l r : List (Int × Int)) (i j : Int) : l.map pD ++ r.map pD ++ [.tuple [.int i, .int j]] = (l ++ r ++ [(i, j)]).map pD := by rw [List.map_append, List.map_append]; rfl
end DL
namespace DL
open PySem PySem.Spec PyProof.Rows L2
theorem comp_filter (p : D → Bool) (P : D → Prop) {wg : WG} {wt : WT} {we : WE} {vs : List Nat} {a : AS} {K : Ev → AS → Prop} {xs : List D} (hl : xs.length ≤ 100000) (hP : ∀ x ∈ xs, P x) (h : ∀ x ∈ xs, P x → PureStep wg wt we vs a p id x)
    (q : ∀ ys : List D, (∀ y ∈ ys, P y ∧ p y = true) → (∀ x ∈ xs, p x = true → x ∈ ys) → ys.length ≤ xs.length → K (.nl ys) a) : Comp xs wg wt we vs a K := by
  refine comp_pure p id hl (fun x hx => h x hx (hP x hx)) ?_
  rw [List.map_id]
  exact q _ (fun y hy => by rw [List.mem_filter] at hy; exact ⟨hP y hy.1, hy.2⟩) (fun x hx hp => List.mem_filter.mpr ⟨hx, hp⟩) (List.length_filter_le _ _)
end DL
namespace DL
open PySem PySem.Spec PyProof.Rows L2
structure Fresh (P : Program) (w : World) (K : PySem.W.Frag) (tabs : List Addr) (a : Addr) (H : Hp) (h : Heap) : Prop where
  tb : ∀ p ∈ tabs, H p = some (.tbl #[])
  kd : ∀ b u, H b = some u → (b = a ∧ K.lookup a = none ∧ ∃ o xs, u = .frz o (.lst xs)) ∨ (b ∈ tabs ∧ u = .tbl #[])
  ok : HOk P w H h
theorem law_run {P : Program} {w : World} {K : PySem.W.Frag} {mg mb : Str → Option Value} {gd : Bool} {k : Nat} {fa a : Addr} {tabs : List (Addr × Addr)} {fd : FuncData} {x : Str} {sp : Sp} {s : Shared} {vs : List Value} {ns : List Int}
    (inK : K.In s.heap) (glob : s.heap.Ns mainGlobals mg) (blt : s.heap.Ns builtinsNs mb) (bltOk : ∀ y : Str, y ≠ "__name__" → mb y = bootBuiltins y) (lim : s.heap.NoLimit) (gen0 : s.gens = #[])
    (tabE : ∀ p ∈ tabs, s.heap.get? p.2 = some { cls := .none, data := .fields #[] }) (tabK : ∀ p ∈ tabs, K.lookup p.2 = none) (tabC : ∀ p ∈ tabs, PySem.W.CodeHd s.heap p.1 p.2)
    (bmod : ∃ (m : Addr) (o : Obj), mg "__builtins__" = some (.ref m) ∧ m ≠ builtinsNs ∧ s.heap.get? m = some o ∧ o.cls = .type "module" ∧ o.dict = some builtinsNs ∧ o.data = .plain)
    (scr : s.heap.get? a = some { cls := .type "list", data := .seq vs.toArray }) (isI : IntsAre vs ns) (len : ns.length ≤ sizeLine) (room : Room k callerA)
    (G : ∀ base : Heap, K.In base → base.Ns mainGlobals mg → (∀ p ∈ tabs, LamX.TabB base mg p.1 p.2) → FnG P w K mg base gd k fa fd [x] sp) (bind : ∀ (t : Shared) (u : Value), BindsTo t fd ⟨[u], []⟩ [(x, u)])
    (spec : ∀ H : Hp, Fresh P w K (tabs.map (·.2)) a H s.heap → Lk K ns H a → sp [.ref a] H (fun v _ => v = .bl true) fun _ _ _ => False) :
    codeAny (model P w) callerA (.call (.ref fa) ⟨[.ref a], []⟩) (fun r t => r = .ok (.ret (.bool true)) ∧ OldK s.heap t.heap ∧ t.os = s.os ∧ AllBare t.gens) s := by
  have tabE' : ∀ b ∈ tabs.map (·.2), s.heap.get? b = some { cls := .none, data := .fields #[] } := fun b hb => by
    obtain ⟨p, hp, rfl⟩ := List.mem_map.mp hb
    exact tabE p hp
  have tabK' : ∀ b ∈ tabs.map (·.2), K.lookup b = none := fun b hb => by
    obtain ⟨p, hp, rfl⟩ := List.mem_map.mp hb
    exact tabK p hp
  have notTab : a ∉ tabs.map (·.2) := fun hm => by
    have h1 := tabE' a hm
    rw [scr] at h1
    cases congrArg Obj.data (Option.some.inj h1)
  have go : ∀ H : Hp, Fresh P w K (tabs.map (·.2)) a H s.heap → Lk K ns H a →
      codeAny (model P w) callerA (.call (.ref fa) ⟨[.ref a], []⟩) (fun r t => r = .ok (.ret (.bool true)) ∧ OldK s.heap t.heap ∧ t.os = s.os ∧ AllBare t.gens) s := by
    intro H fr lk
    have out : ∀ {b : Addr} {o : Obj}, s.heap.get? b = some o → (∀ us n, o.data ≠ .seq us n) → o.data ≠ .fields #[] → H b = none := by
      intro b o ho n1 n2
      cases hb : H b with
      | none => rfl
      | some u =>
        rcases fr.kd b u hb with ⟨rfl, _, _⟩ | ⟨hm, _⟩
        · rw [scr] at ho; cases ho; exact absurd rfl (n1 _ _)
        · rw [tabE' b hm] at ho; cases ho; exact absurd rfl n2
    have outD : ∀ {b : Addr} {o : Obj} {es : Array DictEntry} {n : Nat}, s.heap.get? b = some o → o.data = .dict es n → H b = none := fun ho hd =>
      out ho (fun us n e => by rw [hd] at e; cases e) (fun e => by rw [hd] at e; cases e)
    have nsH : ∀ {b : Addr} {m : Str → Option Value}, s.heap.Ns b m → (hidT s.heap H).Ns b m := by
      rintro b m ⟨o, es, n, ho, hd, r⟩
      exact ⟨o, es, n, hidT_get ho (outD ho hd), hd, r⟩
    have inB : K.In (hidT s.heap H) := by
      intro b o hk
      refine hidT_get (inK b o hk) ?_
      cases hb : H b with
      | none => rfl
      | some u =>
        rcases fr.kd b u hb with ⟨rfl, hn, _⟩ | ⟨hm, _⟩
        · rw [hn] at hk; cases hk
        · rw [tabK' b hm] at hk; cases hk
    have limB : (hidT s.heap H).NoLimit := by
      obtain ⟨mc, l1, l2⟩ := lim
      exact ⟨mc, nsH l1, l2⟩
    have tbB : ∀ p ∈ tabs, LamX.TabB (hidT s.heap H) mg p.1 p.2 := by
      intro p hp
      have he := tabE p hp
      refine { code := ?_, bm := ?_, gP := ?_ }
      · obtain ⟨o, us, f1, f2, f3, f4, f5, f6, f7, ho, c1, c2, c3, c4, c5, c6, c7, c8, c9⟩ := tabC p hp
        refine ⟨o, us, f1, f2, f3, f4, f5, f6, f7, hidT_get ho (out ho (fun _ _ e => by rw [c2] at e; cases e) fun e => ?_), c1, c2, c3, c4, c5, c6, c7, c8, c9⟩
        rw [c2] at e
        cases e
        first | done | simp at c3
      · obtain ⟨m, o, m1, m2, m3, m4, m5, m6⟩ := bmod
        refine ⟨m, o, m1, m2, fun e => ?_, fun e => ?_, hidT_get m3 (out m3 (fun _ _ e => by rw [m6] at e; cases e) fun e => by rw [m6] at e; cases e), m4, m5, m6⟩
        · obtain ⟨o2, es, n, g1, g2, _⟩ := glob
          rw [e, g1] at m3
          cases m3
          rw [g2] at m6
          cases m6
        · rw [e, he] at m3
          cases m3
          cases m6
      · intro e
        obtain ⟨o2, es, n, g1, g2, _⟩ := glob
        rw [e, he] at g1
        cases g1
        cases g2
    have env : Env0 P w K mg (hidT s.heap H) callerA [] s H :=
      { frames := rfl, mod := ⟨inB, nsH glob, ⟨mb, nsH blt, bltOk⟩, limB⟩, bs := fun b o e => of_hidT e, bsz := Nat.le_of_eq (hidT_size s.heap H), funs := trivial,
        frf := fun b hb => by simp [frs] at hb, hok := fr.ok, bare := .of_eq gen0 }
    have run := (G (hidT s.heap H) inB (nsH glob) tbB).run callerA [] s H ⟨[.ref a], []⟩ [.ref a] [.ref a] (fun v _ => v = .bl true) (fun _ _ _ => False) room (fun _ => rfl) env (bind s (.ref a)) (.cons rfl .nil) (spec H fr lk)
    refine codeAny_mono run fun r t ht => ?_
    match r, ht with
    | .error e, ht =>
      obtain ⟨_, _, _, _, _, _, _, _, _, _, _, _, z⟩ := ht
      exact z.elim
    | .ok (.ret u), ⟨v, H', os, bare, un, ok', rv, q⟩ =>
      have q : v = .bl true := q
      subst q
      have eu : u = Value.bool true := rv
      subst eu
      have same : ∀ b o, b ∉ tabs.map (·.2) → s.heap.get? b = some o → t.heap.get? b = some o := by
        intro b o nt ho
        cases hb : H b with
        | none => exact un.keep b o ho hb (by simp [frs]) (by simp)
        | some u =>
          rcases fr.kd b u hb with ⟨rfl, _, o2, xs, rfl⟩ | ⟨hm, _⟩
          · obtain ⟨h1, _⟩ := fr.ok _ _ hb
            obtain ⟨h2, _⟩ := ok' _ _ (un.frzs _ _ _ hb)
            rw [ho] at h1
            cases h1
            exact h2
          · exact absurd hm nt
      have more : ∀ p ∈ tabs, ∃ us : Array Value, t.heap.get? p.2 = some { cls := .none, data := .fields us } := by
        intro p hp
        obtain ⟨us, hu⟩ := un.tbls p.2 #[] (fr.tb p.2 (List.mem_map.mpr ⟨p, hp, rfl⟩))
        exact ⟨_, ok' p.2 _ hu⟩
      refine ⟨rfl, { old := fun b o ho => ?_, there := fun b o ho => ?_ }, os, bare⟩
      · by_cases hm : b ∈ tabs.map (·.2)
        · obtain ⟨p, hp, rfl⟩ := List.mem_map.mp hm
          obtain ⟨us, hu⟩ := more p hp
          have ho2 := ho
          rw [tabE p hp] at ho2
          cases ho2
          refine .inr (.inl ⟨((tabC p hp).tab (tabE p hp)).isCodeTable, rfl, #[], us, rfl, ?_⟩)
          rw [Array.empty_append]
          exact hu
        · exact .inl (same b o hm ho)
      · by_cases hm : b ∈ tabs.map (·.2)
        · obtain ⟨p, hp, rfl⟩ := List.mem_map.mp hm
          obtain ⟨us, hu⟩ := more p hp
          exact ⟨_, hu⟩
        · exact ⟨o, same b o hm ho⟩
  let T : Hp := fun b => if b ∈ tabs.map (·.2) then some (.tbl #[]) else none
  have T1 : ∀ b ∈ tabs.map (·.2), T b = some (.tbl #[]) := fun b hb => if_pos hb
  have T2 : ∀ b u, T b = some u → b ∈ tabs.map (·.2) ∧ u = .tbl #[] := fun b u e => by
    by_cases hb : b ∈ tabs.map (·.2)
    · rw [T1 b hb] at e; cases e; exact ⟨hb, rfl⟩
    · have : T b = none := if_neg hb
      rw [this] at e; cases e
  cases hk : K.lookup a with
  | some o =>
    have ho := inK a o hk
    rw [scr] at ho
    cases ho
    refine go T ⟨T1, fun b u e => .inr (T2 b u e), fun b u e => ?_⟩ (.inr fun H => .inr ⟨_, vs.toArray, _, hk, rfl, rfl, rfl, ?_, ?_⟩)
    · obtain ⟨hm, rfl⟩ := T2 b u e
      exact tabE' b hm
    · rw [List.size_toArray, isI.length]; exact len
    · simpa using vals_ints isI
  | none =>
    let S : Hp := fun b => if b = a then some (.frz { cls := .type "list", data := .seq vs.toArray } (.lst (ns.map V.int))) else T b
    have S1 : S a = some (.frz { cls := .type "list", data := .seq vs.toArray } (.lst (ns.map V.int))) := if_pos rfl
    have S2 : ∀ b, b ≠ a → S b = T b := fun b n => if_neg n
    refine go S ⟨fun p hp => ?_, fun b u e => ?_, fun b u e => ?_⟩ (.inl ⟨_, S1⟩)
    · rw [S2 p (fun z => notTab (by rw [← z]; exact hp))]; exact T1 p hp
    · by_cases hb : b = a
      · subst hb
        rw [S1] at e
        cases e
        exact .inl ⟨rfl, hk, _, _, rfl⟩
      · rw [S2 b hb] at e
        exact .inr (T2 b u e)
    · by_cases hb : b = a
      · subst hb
        rw [S1] at e
        cases e
        exact ⟨scr, by rw [List.length_map]; exact len, vs, _, vals_ints isI, scr⟩
      · rw [S2 b hb] at e
        obtain ⟨hm, rfl⟩ := T2 b u e
        exact tabE' b hm
def ctLaw (K : PySem.W.Frag) (n : Nat) : Ct := fun args ow KQ _ => ∃ ns, args = [.sc K ns] ∧ ow = [] ∧ ns.length ≤ n ∧ KQ (.d (.bool true)) []
theorem law_spec {P : Program} {w : World} {K : PySem.W.Frag} {n : Nat} {a : Addr} {ns : List Int} {H : Hp} {h : Heap} (fr : Fresh P w K [] a H h) (lk : Lk K ns H a) (hl : ns.length ≤ n) : spOf 1 (ctLaw K n) [.ref a] H (fun v _ => v = .bl true) fun _ _ _ => False := by
  refine ⟨[.sc K ns], [], H, [], fun r _ => r = .d (.bool true), fun _ _ => False, rfl, ⟨Sub.refl H, List.nodup_nil, rfl, fun k fp c e => by simp at e, fun p hp => by simp at hp, rfl, fun i s e => ?_, Nat.le_refl _, fun _ _ e => e⟩, ⟨ns, rfl, rfl, hl, rfl⟩, fun r ow v F' H' e _ _ o _ => ?_, fun _ _ _ _ _ z => z.elim⟩
  · match i, e with
    | 0, e => cases e; exact ⟨a, rfl, lk⟩
    | i + 1, e => simp at e
  · subst e
    have o : Rep F' v (.bool true) := o
    cases o
    rfl
theorem law_walk {l : PySem.W.OpenLaw} {gd : Bool} {n k : Nat} {q : Program} {loose : List Str} {XP : (Str → Option Value) → Heap → Prop} {YP : World → Heap → Prop} {d : DefRec} {K : Params → PySem.W.Frag} {x : Str}
    (hn : l.most = some n) (hn2 : n ≤ sizeLine) (hdf : d.params.defaults = []) (room : Room k callerA) (hY : ∀ (w : World) (h : Heap), YP w h → (K w.params).In h)
    (F : ∀ (w : World) (mg : Str → Option Value) (fa : Addr) (h : Heap), (K w.params).In h → h.Ns mainGlobals mg → mg d.name = some (.ref fa) →
      ∃ fd : FuncData, (∀ (s : Shared) (u : Value), BindsTo s fd ⟨[u], []⟩ [(x, u)]) ∧ ∀ base : Heap, (K w.params).In base → base.Ns mainGlobals mg → FnG l.prog w (K w.params) mg base gd k fa fd [x] (spOf 1 (ctLaw (K w.params) n))) :
    PySem.W.WalkO q loose XP YP l.row.toRowW d [] (fun f vs => PySem.call f vs) := by
  refine Att.attach_call hn hdf fun w s0 s1 mg mb fa o pm cd doc a vs ns G Y _ _ _ named scr isI len gen0 => ?_
  have inK := hY w _ Y
  obtain ⟨fd, bind, Gd⟩ := F w mg fa _ inK G.T.g named
  exact law_run (tabs := []) inK G.T.g G.T.b G.T.builtins G.T.nolimit gen0 (fun p hp => by simp at hp) (fun p hp => by simp at hp) (fun p hp => by simp at hp) G.T.bmain scr isI (Nat.le_trans len hn2) room
    (fun base h1 h2 _ => Gd base h1 h2) bind fun H fr lk => law_spec fr lk len
end DL
namespace DL
open PySem PySem.Spec PyProof.Rows L2
structure CalB (P : Program) (w : World) (K : PySem.W.Frag) (mg : Str → Option Value) (base : Heap) (gd : Bool) (k : Nat) (x : Str) (ps : List Str) : Prop where
  ex : ∃ f fd, FnG P w K mg base gd k f fd ps (spBegun K) ∧ mg x = some (.ref f) ∧ PySem.W.keepIn K (.ref f) = true ∧ Binds K fd ps []
theorem ds_begun {X : Cx} {gd : Bool} {k j0 i j : Nat} {ps : List Str} {E : XK} {f y z : Str} {p p2 p3 pos' pos : Pos} (C : CalB X.prog X.w X.K X.mg X.base gd k f ps) (hr : Room j0 X.A) (hj : k ≤ j0) (hgd : gd = true → X.A.guards = some []) (hx : PassG X E) (hg : Gl X f)
    (hN : X.N.Nodup) (hi : X.N[j]? = some y) (hl : Loc X.env.scope y) (hN2 : X.N[i]? = some z) (hv : Vis X.env.scope z) (hdb : (f == ("__debug__" : Str)) = false := by decide)
    (hd : (z == ("__debug__" : Str)) = false := by decide) (hcd : (z == ("__classdict__" : Str)) = false := by decide)
    (he : starEach [Expr.Name z p2] X.env = (false, eval (Expr.Name z p2) X.env) :: starEach [] X.env := by rfl) (hpl : (backTo p3 (starEach [] X.env)).any (·.1) = false := by rfl)
    (hs : swapsWith (.Call (.Name f p) [.Name z p2] [] p3) (some (.Name y pos')) pos.line X.env = pure false := by rfl)
    (hf : X.fn y = true ∨ X.env.scope.names.lookup y = some .local := by first | exact .inl rfl | exact .inr rfl | assumption) :
    DS X E (.Assign [.Name y pos'] (.Call (.Name f p) [.Name z p2] [] p3) pos) (tAsg (tCallG (spBegun X.K) E (tCons (tVar i) tNil)) (gName j)) (wBegun X.K i j) := by
  obtain ⟨fa, fd, F, hm, hk, hb⟩ := C.ex
  exact ⟨ps_set hN hi hl (pe_callG F (hr.mono hj) hgd hx hg hm hk hb (pa_cons (pe_var hN2 hv hd hcd) pa_nil he) hdb he hpl) hs hf, snd_begun⟩
theorem ds_begunK (K0 : PySem.W.Frag) {X : Cx} {gd : Bool} {k j0 i j : Nat} {ps : List Str} {E : XK} {f y z : Str} {p p2 p3 pos' pos : Pos} (C : CalB X.prog X.w K0 X.mg X.base gd k f ps) (hr : Room j0 X.A) (hj : k ≤ j0) (hgd : gd = true → X.A.guards = some []) (hx : PassG X E) (hg : Gl X f)
    (hN : X.N.Nodup) (hi : X.N[j]? = some y) (hl : Loc X.env.scope y) (hN2 : X.N[i]? = some z) (hv : Vis X.env.scope z) (hdb : (f == ("__debug__" : Str)) = false := by decide)
    (hd : (z == ("__debug__" : Str)) = false := by decide) (hcd : (z == ("__classdict__" : Str)) = false := by decide)
    (he : starEach [Expr.Name z p2] X.env = (false, eval (Expr.Name z p2) X.env) :: starEach [] X.env := by rfl) (hpl : (backTo p3 (starEach [] X.env)).any (·.1) = false := by rfl)
    (hs : swapsWith (.Call (.Name f p) [.Name z p2] [] p3) (some (.Name y pos')) pos.line X.env = pure false := by rfl)
    (hf : X.fn y = true ∨ X.env.scope.names.lookup y = some .local := by first | exact .inl rfl | exact .inr rfl | assumption) (hK : X.K = K0 := by rfl) :
    DS X E (.Assign [.Name y pos'] (.Call (.Name f p) [.Name z p2] [] p3) pos) (tAsg (tCallG (spBegun K0) E (tCons (tVar i) tNil)) (gName j)) (wBegun K0 i j) := by
  subst hK
  exact ds_begun C hr hj hgd hx hg hN hi hl hN2 hv hdb hd hcd he hpl hs hf
theorem de_lenScrK (K0 : PySem.W.Frag) {X : Cx} {E : XK} {p pos pos2 : Pos} (i : Nat) {x : Str} (hg : Gl X "len") (hm : X.mg "len" = none) (hN : X.N[i]? = some x := by rfl) (hv : Vis X.env.scope x := by first | exact Or.inl rfl | exact Or.inr (Or.inl rfl) | exact Or.inr (Or.inr rfl)) (hd : (x == ("__debug__" : Str)) = false := by decide)
    (hcd : (x == ("__classdict__" : Str)) = false := by decide) (he : starEach [Expr.Name x pos2] X.env = (false, eval (Expr.Name x pos2) X.env) :: starEach [] X.env := by rfl) (hpl : (backTo pos (starEach [] X.env)).any (·.1) = false := by rfl) (hK : X.K = K0 := by rfl) :
    DE X E (.Call (.Name "len" p) [.Name x pos2] [] pos) (tCB (rLenScr K0) (tCons (tVar i) tNil)) (wLenScr K0 i) := by
  subst hK
  exact de_lenScr i hg hm hN hv hd hcd he hpl
theorem begun_i {K0 : PySem.W.Frag} {i j : Nat} {ns : List Int} {a : AS} {A : AE} (h : a.sl[i]? = some (.sc K0 ns)) (hl : ns.length ≤ 100000) (q : A.nx { a with sl := a.sl.set j (.o a.ow.length), ow := a.ow ++ [.st 0] }) : wBegun K0 i j a A := ⟨ns, h, hl, q⟩
def scO (K0 : PySem.W.Frag) : Option Sl → List Int → Prop := fun o ns => o = some (.sc K0 ns)
theorem u_lenScr {K0 : PySem.W.Frag} {i : Nat} {a : AS} {K : Ev → AS → Prop} {B : XD → AS → Prop} {ns : List Int} (h : a.sl[i]? = some (.sc K0 ns)) (q : K (.d (.int (ns.length : Nat))) a) : wLenScr K0 i a K B := ⟨ns, h, q⟩
theorem e_lenScr {K0 : PySem.W.Frag} {ns : List Int} {r : List Sl} {ow : List Own} {n : Nat} {K : Ev → AS → Prop} {B : XD → AS → Prop} : wLenScr K0 0 ⟨.sc K0 ns :: r, ow, n⟩ K B = K (.d (.int (ns.length : Nat))) ⟨.sc K0 ns :: r, ow, n⟩ :=
  propext ⟨fun ⟨ms, h, q⟩ => by cases h; exact q, fun q => ⟨ns, rfl, q⟩⟩
theorem e_begun {K0 : PySem.W.Frag} {ns : List Int} {r : List Sl} {ow : List Own} {n j : Nat} {A : AE} : wBegun K0 0 j ⟨.sc K0 ns :: r, ow, n⟩ A = side (ns.length ≤ 100000) (A.nx ⟨(.sc K0 ns :: r).set j (.o ow.length), ow ++ [.st 0], n⟩) :=
  propext ⟨fun ⟨ms, h, hl, q⟩ => by cases h; exact ⟨hl, q⟩, fun ⟨hl, q⟩ => ⟨ns, rfl, hl, q⟩⟩
theorem draw_read {K : PySem.W.Frag} {vs : List V} {H : Hp} {Q : VK} {E : XK} (h : spDraw vs H Q E) : tDraw K { nx := fun _ H' => Q .non H', rt := Q } (L2.start ["state", "size_here", "turn", "cell", "mixed", "found"] vs) H := by
  obtain ⟨st, L, C, large, cells, left, turn, size, rfl, d, h1, h2, h3, h4, h5, q⟩ := h
  exact draw_all d h5 h1 h2 h3 h4 q
end DL
namespace DL
open PySem PySem.Spec PyProof.Rows L2
theorem eqv_ss (a b : Str) : PyData.eqv (.str a) (.str b) = decide (a = b) := by
  show (a == b) = _
  by_cases h : a = b <;> simp [h]
theorem canEq_ss (a b : Str) : CanEq (.str a) (.str b) = True := eq_true ⟨rfl, rfl, Nat.le_trans (Nat.min_le_left _ _) (by rw [depth_s]; decide)⟩
theorem canShow_bb (a b : Bool) : CanShow (.list [.bool a, .bool b]) = True := eq_true (by cases a <;> cases b <;> exact ⟨rfl, rfl, by decide, by decide⟩)
theorem items_l (xs : List D) : (itemsD (.list xs) = none) = False := eq_false (fun h => by cases h)
theorem items_t (xs : List D) : (itemsD (.tuple xs) = none) = False := eq_false (fun h => by cases h)
end DL
namespace DL
open PySem PySem.Spec PyProof.Rows L2
theorem errO_ok {P : Program} {w : World} {H : Hp} {h : Heap} {a : Addr} {cls : Value} {d : Option Addr} {oe : Obj} {vs : Array Value} (e : h.get? a = some oe) (z : Zc cls d oe) (v : oe.data = .fields vs) : ObjOk P w H h a (ErrO cls d a) :=
  ⟨⟨oe, vs, e, z, v⟩, ⟨oe, e⟩, fun h1 h2 ⟨o, us, e1, z1, v1⟩ st => ⟨o, us, st _ e1, z1, v1⟩⟩
section
variable {X : Cx} {pins : List (Addr × Obj)} {σ : Sgm} {H : Hp} {s : Shared}
theorem track {a : Addr} {o : HO} {oe : Obj} (I : Inv X pins σ H s) (ha : s.heap.get? a = some oe) (hv : ∀ v, oe.data ≠ .cell v) (hn : H a = none) (h0 : X.s_0.heap.get? a = none) (hL : a ≠ X.env.locals)
    (hp : ∀ p ∈ X.pn ++ pins, p.1 ≠ a) (new : ObjOk X.prog X.w (upd H a o) s.heap a o) : Inv X pins σ (upd H a o) s := by
  have there : ∀ b u, H b = some u → b ≠ a := fun b u e z => by subst z; rw [hn] at e; cases e
  have notCell : ∀ x c, X.env.cells.lookup x = some c → c ≠ a := fun x c e z => by
    subst z
    obtain ⟨v, ob, h1, h2⟩ := I.cell x c e
    rw [ha] at h1
    cases h1
    exact hv _ h2
  refine { ok := I.ok, os := I.os, bare := I.bare, loc := I.loc, cell := I.cell, len := I.len, base := ?_, free := ?_, freeC := fun x c e => ?_, pin := fun p m => ?_, hok := fun b u e => ?_ }
  · have U := I.base
    refine { keep := U.keep, slot := U.slot, there := U.there, free := fun b ob h1 h2 h3 => ?_, tups := fun b xs e => ?_, frzs := fun b ob u e => ?_, tbls := fun b ps e => ?_ }
    · have : b ≠ a := fun z => by subst z; rw [h0] at h1; cases h1
      rw [upd_ne this]; exact U.free b ob h1 h2 h3
    · have := U.tups b xs e; rw [upd_ne (there _ _ this)]; exact this
    · have := U.frzs b ob u e; rw [upd_ne (there _ _ this)]; exact this
    · obtain ⟨more, z⟩ := U.tbls b ps e; exact ⟨more, by rw [upd_ne (there _ _ z)]; exact z⟩
  · rw [upd_ne (Ne.symm hL)]; exact I.free
  · rw [upd_ne (notCell x c e)]; exact I.freeC x c e
  · obtain ⟨q1, q2, q3⟩ := I.pin p m
    exact ⟨q1, by rw [upd_ne (hp p m)]; exact q2, q3⟩
  · by_cases hb : b = a
    · subst hb; rw [upd_same] at e; cases e; exact new
    · rw [upd_ne hb] at e
      exact (I.hok b u e).stay (fun c v _ q => q) (fun c q => by rw [upd_ne (there _ _ q)]; exact q) fun c xs q => by rw [upd_ne (there _ _ q)]; exact q
def wKeep (K : PySem.W.Frag) (c : Value) (i : Nat) (ts : Addr → Value → Option Addr → TS) (Wout : WX) (D : Ends) : WX := fun cls d σ H =>
  ∃ b, PySem.W.exmOne K cls c = some b ∧
    (b = true → ∀ a, H a = none → ts a cls d { nx := fun σ2 H2 => D.nx (σ2.set i none) (upd H2 a (ErrO cls d a)), rt := fun _ _ => False } (σ.set i (some (.ref a))) H) ∧ (b = false → Wout cls d σ H)
theorem ps_try_keep {x n : Str} {c : Value} {i : Nat} {body suite : List Stmt} {b0 : Stmt} {np pos' pos : Pos} {tb : WX → TS} {ts : Addr → Value → Option Addr → TS} {Wout : WX}
    (hs : X.stack = X.env :: X.outer) (hf : X.env.frame = some X.env.locals) (hex : X.ex = []) (hN : X.N.Nodup) (hi : X.N[i]? = some n) (hln : X.env.kindOf n = some .local) (hc : Names X x c) (tk : Takes X Wout)
    (hb : ∀ (W : WX) (pn : List (Addr × Obj)) (xe : Value → Shared → Prop), Takes (X.tr pn xe) W → PassesOwn (model X.prog X.w) X.A X.env xe → PSs (X.tr pn xe) body (tb W))
    (hsu : ∀ (a : Addr) (oe : Obj) (cls : Value) (d : Option Addr) (pn : List (Addr × Obj)), Zc cls d oe → (∃ vs, oe.data = .fields vs) → PSs (X.suite a ((a, oe) :: pn)) (b0 :: suite) (ts a cls d)) :
    PS X (.Try body [.ExceptHandler (some (.Name x np)) (some n) (b0 :: suite) pos'] [] [] pos) (fun D σ H => tb (wKeep X.K c i ts Wout D) D σ H) := by
  constructor
  intro pins s σ H D I h
  have ok := I.ok
  have frames : X.A.frames = some (X.env :: X.outer) := ok.frames.trans (by rw [hs])
  apply wpAny_Try_except
  let after : Value → Shared → Prop := fun e s1 =>
    wpAny (model X.prog X.w) X.A (noteFrame e X.env)
      (fun _ s2 => wpAny (model X.prog X.w) X.A (setFlight e none)
        (fun _ s3 => wpAny (model X.prog X.w) X.A (handleBy e X.env [.ExceptHandler (some (.Name x np)) (some n) (b0 :: suite) pos']) (SP X pins D) X.xe s3) X.xe s2) X.xe s1
  have taken : Takes (X.tr (X.pn ++ pins) after) (wKeep X.K c i ts Wout D) := by
    intro u t air
    obtain ⟨a, B, sI, pins', σ1, H1, cls, d, eu, J', ground, up, sky, na, os, ag, b, hexm, yes, no⟩ := air
    subst eu
    have J : Inv X pins σ1 H1 sI := J'.ofTry ok
    have sky : Sky B (X.env :: X.outer) a (Zc cls d) X.env.locals t.heap := by rw [← hs]; exact sky
    have Ba : B.get? a = none := by
      rcases sky with ⟨_, z, _⟩ | ⟨_, z, _⟩ | ⟨_, z, _⟩ <;> exact z
    show wpAny (model X.prog X.w) X.A (noteFrame (.ref a) X.env) _ _ _
    refine Sky.land Zc.steady frames hf sky fun h3 fl3 up3 => ?_
    have J3 : Inv X pins σ1 H1 { t with heap := h3 } := J.landed ground fl3.1 (up.trans up3) os ag
    obtain ⟨oe3, vs3, he3, hz3, hd3⟩ := fl3.there
    have noFrame : a ∉ frs (X.env :: X.outer) := fun hm => by
      obtain ⟨_, o', e', nf⟩ := fl3.2.2.1.mem hm
      rw [he3] at e'
      cases e'
      exact nf _ hd3
    have nL : a ≠ X.env.locals := fun z => noFrame (List.mem_filterMap.mpr ⟨X.env, List.mem_cons_self, by rw [hf, z]⟩)
    have nF : a ∉ X.fs := fun hm => by
      obtain ⟨e, m, q⟩ := List.mem_filterMap.mp hm
      exact noFrame (List.mem_filterMap.mpr ⟨e, List.mem_cons_of_mem _ m, q⟩)
    have sIa : sI.heap.get? a = none := by
      cases e : sI.heap.get? a with
      | none => rfl
      | some o =>
        have := ground a o e (by rw [hs]; exact noFrame)
        rw [Ba] at this; cases this
    have s0a : X.s_0.heap.get? a = none := by
      cases e : X.s_0.heap.get? a with
      | none => rfl
      | some o =>
        obtain ⟨o', z⟩ := J.base.there a o e (by rw [hex]; simp)
        rw [sIa] at z; cases z
    have pinsNe : ∀ p ∈ X.pn ++ pins, p.1 ≠ a := fun p m z => by
      have := (J.pin p m).1
      rw [z, sIa] at this; cases this
    have S3 := J3.suite he3 hd3 na nL nF
    refine wpAny_handleBy_cons (codeAny_handlers_test ?_) (by intro q; cases q)
    have looks : PySem.W.Looks (model X.prog X.w) h3 (typeOf (.ref a)) cls := fun A Q E s' k q => wpAny_typeOf_ref (k _ _ he3) (by rw [hz3.1]; exact q)
    have exm := PySem.W.exm_one (M := model X.prog X.w) J3.kIn looks hexm
    have named : ∀ {Q E : Value → Shared → Prop}, Q c { t with heap := h3 } → wpAny (model X.prog X.w) (X.A.mark (some (.ref a))) (eval (.Name x np) X.env) Q E { t with heap := h3 } := by
      intro Q E q
      obtain ⟨hg, hdb, hm | ⟨hm, hv, hnn⟩⟩ := hc
      · exact ld_glob (X := X.suite a ((a, oe3) :: (X.pn ++ pins))) S3 hg hm q hdb
      · exact ld_blt (X := X.suite a ((a, oe3) :: (X.pn ++ pins))) S3 hg hm hv q hnn hdb
    refine named (exm.here ?_)
    cases b with
    | true =>
      refine codeAny_handlers_suite_as (HandSPX.lands_againZ fl3 fun h4 fl4 up4 => ?_)
      have J4 : Inv X pins σ1 H1 { t with heap := h4 } := J.landed ground fl4.1 ((up.trans up3).trans up4) os ag
      obtain ⟨oe4, vs4, he4, hz4, hd4⟩ := fl4.there
      refine store_ok (X := X.suite a ((a, oe4) :: (X.pn ++ pins))) (v := .ref a) (J4.suite he4 hd4 na nL nF) hN hi (.inl hln) rfl (fun s5 S5 => ?_) (.inr hln)
      have run := (hsu a oe4 cls d (X.pn ++ pins) hz4 ⟨_, hd4⟩).run [] s5 _ H1 _ S5 (yes rfl a na)
      refine wpAny_mono run (fun f s6 fin => ?_) fun _ _ z => z.elim
      match f, fin with
      | .next, ⟨σ6, H6, S6, q6⟩ =>
        have J6 : Inv X ((a, oe4) :: pins) σ6 H6 s6 :=
          ⟨ok, S6.os, S6.bare, S6.base, S6.loc, S6.cell, S6.free, S6.freeC, fun p m => S6.pin p (by
            rw [List.append_nil]
            rcases List.mem_append.mp m with z | z
            · exact List.mem_cons_of_mem _ (List.mem_append_left _ z)
            · rcases List.mem_cons.mp z with z | z
              · rw [z]; exact List.mem_cons_self
              · exact List.mem_cons_of_mem _ (List.mem_append_right _ z)), S6.hok, S6.len⟩
        refine gone_ok J6 hN hi hln fun s7 J7 => ?_
        obtain ⟨p1, p2, p3, _⟩ := J7.pin (a, oe4) (List.mem_append_right _ List.mem_cons_self)
        have J8 : Inv X pins (σ6.set i none) H6 s7 := ⟨ok, J7.os, J7.bare, J7.base, J7.loc, J7.cell, J7.free, J7.freeC, fun p m => J7.pin p (by
            rcases List.mem_append.mp m with z | z
            · exact List.mem_append_left _ z
            · exact List.mem_append_right _ (List.mem_cons_of_mem _ z)), J7.hok, J7.len⟩
        exact ⟨_, _, track J8 p1 (fun v z => by rw [hd4] at z; cases z) p2 s0a nL pinsNe (errO_ok p1 hz4 hd4), q6⟩
      | .brk, ⟨_, _, _, z⟩ => exact z.elim
      | .cont, ⟨_, _, _, z⟩ => exact z.elim
      | .ret u, ⟨_, _, _, _, _, z⟩ => exact z.elim
    | false =>
      show wpAny _ X.A (handleBy (.ref a) X.env []) _ _ _
      apply wpAny_handleBy_nil
      obtain ⟨k1, k2, k3, oe, vs, T, oT, ts', he, hz, hd, h1, hr⟩ := id fl3
      unfold PySem.passOn
      apply wpAny_bind
      apply wpAny_field he hd h1
      rw [if_neg (show ¬ ((Value.ref T == Value.none) = true) from by simp)]
      have up' : wpAny (model X.prog X.w) X.A (setFlight (.ref a) X.env.frame) (fun _ s4 => wpAny (model X.prog X.w) X.A (throw (.ref a) : Sem Flow) (SP X pins D) X.xe s4) X.xe { t with heap := h3 } := by
        rw [hf]
        refine HandSPX.setFlight_upZ fl3 fun h4 held up4 => wpAny_throw (tk _ _ ?_)
        exact ⟨a, B, sI, pins, σ1, H1, cls, d, rfl, J, ground, (up.trans up3).trans up4, .inr (.inr (by rw [hs]; exact held)), na, os, ag, no rfl⟩
      first
        | exact wpAny_bind (wpAny_pure (wpAny_bind up'))
        | exact wpAny_bind up'
  have body := (hb (wKeep X.K c i ts Wout D) (X.pn ++ pins) after taken PassesOwn.looking).run [] s σ H D (I.toTry _) h
  refine wpAny_mono body (fun f s1 fin => ?_) fun e s1 z => z
  match f, fin with
  | .next, ⟨σ2, H2, J, q⟩ => exact wpAny_execs_nil ⟨σ2, H2, J.ofTry ok, q⟩
  | .brk, ⟨σ2, H2, J, q⟩ => exact ⟨σ2, H2, J.ofTry ok, q⟩
  | .cont, ⟨σ2, H2, J, q⟩ => exact ⟨σ2, H2, J.ofTry ok, q⟩
  | .ret u, ⟨v, σ2, H2, J, r, q⟩ => exact ⟨v, σ2, H2, J.ofTry ok, r, q⟩
end
end DL
namespace DL
open PySem PySem.Spec PyProof.Rows L2 LamX
def tCopy (n i j : Nat) (a : Addr) : TS := fun D σ H => (σ.length = n → σ[i]? = some (some (.ref a))) ∧ ∀ σ2 : Sgm, σ2.length = n → σ2[j]? = some (some (.ref a)) → D.nx σ2 H
theorem ps_copy {X : Cx} {i j n : Nat} {a : Addr} {y e : Str} {p p2 pos : Pos} (hn : X.N.length = n) (hN : X.N.Nodup) (hj : X.N[j]? = some y) (hl : Loc X.env.scope y) (hi : X.N[i]? = some e) (hv : Vis X.env.scope e)
    (hd : (e == ("__debug__" : Str)) = false) (hcd : (e == ("__classdict__" : Str)) = false) (hs : swapsWith (.Name e p2) (some (.Name y p)) pos.line X.env = pure false) (hf : X.fn y = true ∨ X.env.scope.names.lookup y = some .local) :
    PS X (.Assign [.Name y p] (.Name e p2) pos) (tCopy n i j a) := by
  constructor
  intro pins s σ H D I h
  have len : σ.length = n := I.len.trans hn
  have hj' : j < σ.length := by rw [len, ← hn]; exact (List.getElem?_eq_some_iff.mp hj).1
  exact (ps_set hN hj hl (pe_var hi hv hd hcd) hs hf).run pins s σ H D I ⟨.ref a, h.1 len, h.2 _ (by rw [List.length_set]; exact len) (List.getElem?_set_self hj')⟩
def TTc (K : PySem.W.Frag) (CS : Addr) : (XK → Hp → VK → Prop) → Hp → VK → Prop := fun tl H Q =>
  tl (fun cls d H2 => PySem.W.exmOne K cls (.ref CS) = some true ∧ ∀ a, H2 a = none → Q (.ref a) (upd H2 a (ErrO cls d a))) H (fun _ H2 => Q .non H2)
theorem caught_gives {X : Cx} {x q c e k : Str} {sg : Scope} {g CS : Addr} {cdg : Value} {j : Nat} {a1 a2 a3 b1 b2 b3 b4 c1 c2 c3 c4 d1 d2 d3 r1 r2 : Pos}
    (sc : FnScope ["work", "caught", "error"] ["work"] sg) (hge : sg.names.lookup e = some .globalImplicit) (hme : X.mg e = some (.ref CS)) (hde : (e == ("__debug__" : Str)) = false)
    (hw : Vis sg "work") (lc : sg.names.lookup ("caught" : Str) = some .local) (le : sg.names.lookup ("error" : Str) = some .local) :
    GivesTo X ["work", "caught", "error"] x sg g cdg
      [.Assign [.Name "caught" a1] (.Constant .none j a2) a3,
        .Try [.Expr (.Call (.Name "work" b1) [] [] b2) b3] [.ExceptHandler (some (.Name e c1)) (some "error") [.Assign [.Name "caught" d1] (.Name "error" d2) d3] c2] [] [] c3,
        .Return (some (.Name "caught" r1)) r2] "work" q (TTc X.K CS) := by
  intro f c' s H Q tl act hc h
  let Z : Cx := (cxOf C8.CX0 X.prog X.w X.K X.mg X.base ["work", "caught", "error"] x sg g cdg X.A X.stack s H C8.E0).nox
  have hgl : Gl Z e := hge
  have try_ := ps_try_keep (X := Z) (c := .ref CS) (i := 2) (n := "error") (x := e) (np := c1) (pos' := c2) (pos := c3) (b0 := .Assign [.Name "caught" d1] (.Name "error" d2) d3) (suite := []) (body := [.Expr (.Call (.Name "work" b1) [] [] b2) b3])
    (tb := fun W D σ H => ∃ Ech : XK, (∀ cls d σ' H', Ech cls d H' → W cls d σ' H') ∧ σ[0]? = some (some (.ref f)) ∧ H c' = some (CodeO c' q) ∧ tl Ech H fun _ H2 => D.nx σ H2) (ts := fun a _ _ => tCopy 3 2 1 a)
    rfl rfl rfl sc.nd rfl le ⟨hgl, hde, .inl hme⟩ L2.takes0
    (fun W pn xe tk _ => ⟨fun pins s' σ H' D I h' => by
      obtain ⟨Ech, hW, h1, h2, h3⟩ := h'
      exact (pss_one (ps_expr (pos := b3) (act W pn xe Ech b1 b2 tk hW) (by rfl))).run pins s' σ H' D I ⟨h1, h2, h3⟩⟩)
    (fun a oe cls d pn _ _ => pss_one (ps_copy rfl sc.nd rfl (.inl lc) rfl (.inl le) (by decide) (by decide) (by rfl) (.inr lc)))
  refine ⟨_, pss_cons (ps_set (i := 1) sc.nd rfl (.inl lc) pe_non (by rfl) (.inr lc)) (pss_cons try_ (pss_one (ps_ret (pe_var (i := 1) rfl (.inl lc) (by decide) (by decide))))), ?_⟩
  refine ⟨fun cls d H2 => PySem.W.exmOne X.K cls (.ref CS) = some true ∧ ∀ a, H2 a = none → Q (.ref a) (upd H2 a (ErrO cls d a)), fun cls d σ' H2 hh => ⟨true, hh.1, fun _ a na => ⟨fun hl => ?_, fun σ2 hl h1 => ⟨.ref a, ?_, hh.2 a na⟩⟩, fun z => by cases z⟩, rfl, hc, ?_⟩
  · rw [List.length_set] at hl
    exact List.getElem?_set_self (by omega)
  · rw [List.getElem?_set_ne (by decide)]; exact h1
  · have en : (fun (_ : V) H2 => Q .non H2) = fun (_ : V) H2 => tRet (tVar 1) { nx := fun _ H' => Q .non H', rt := Q } (List.set (L2.start ["work", "caught", "error"] [V.ref f]) 1 (some V.non)) H2 := by
      funext _ H2
      exact propext ⟨fun q => ⟨.non, rfl, q⟩, fun ⟨v, e, q⟩ => by cases e; exact q⟩
    have h' := h
    unfold TTc at h'
    rw [en] at h'
    exact h'
end DL
namespace DL
open PySem PySem.Spec PyProof.Rows L2 LamX
structure Lm where
  params : Arguments
  body : Expr
  scope : Scope
def LamO (L : Lm) (q : Str) (clo : List (Str × Addr)) (c' f : Addr) : HO := .ext fun h => ∃ pm ctv : Value, h.get? f = some (PySem.W.kla_obj "<lambda>" q L.params L.body L.scope clo pm c' ctv)
abbrev lqX (X : Cx) : Str := X.env.qual ++ "<lambda>"
abbrev cloX (X : Cx) (L : Lm) : List (Str × Addr) := cloFrom X.env.cells L.scope.names []
def CodesIn (H : Hp) (q : Str) (ps : Array Value) : Prop := TriplesOk ps.toList ∧ ∀ (pos : Pos) (cv : Value), codeAmong pos ps.toList = some cv → ∃ c, cv = .ref c ∧ H c = some (CodeO c q)
inductive Coded (H : Hp) (P : Addr) (q : Str) (ps : Array Value) (c' : Addr) : Hp → Prop
  | hit (h : H c' = some (CodeO c' q)) (m : ∃ pos, codeAmong pos ps.toList = some (.ref c')) : Coded H P q ps c' H
  | new (more : Array Value) (n : H c' = none) (t : TriplesOk more.toList) (k : ∀ (pos : Pos) (cv : Value), codeAmong pos more.toList = some cv → codeAmong pos ps.toList = some cv ∨ cv = .ref c') : Coded H P q ps c' (upd (upd H P (.tbl more)) c' (CodeO c' q))
def tLm (X : Cx) (P : Addr) (L : Lm) : TE := fun _ H Q => ∃ ps, H P = some (.tbl ps) ∧ CodesIn H (lqX X) ps ∧ ∀ f c' H1, Coded H P (lqX X) ps c' H1 → H1 f = none → Q (.ref f) (upd H1 f (LamO L (lqX X) (cloX X L) c' f))
section
variable {X : Cx} {pins : List (Addr × Obj)} {σ : Sgm} {H : Hp} {s : Shared}
structure LamAt (X : Cx) (P : Addr) : Prop where
  ex : ∃ c, TabB X.base X.mg c P ∧ X.env.code = .ref c
  hex : X.ex = []
structure LmOk (X : Cx) (L : Lm) : Prop where
  sc : LamS X.env.scope L.scope
  df : defaultsOf L.params X.env = ([], [])
  bn : ∀ (q : Str) (cl : List (Str × Addr)) (pm cv ctv : Value), bindArgs (PySem.W.kla_fn "<lambda>" q L.params L.body L.scope cl pm cv ctv) ⟨[], []⟩ = pure []
theorem pe_lm0 {P : Addr} {L : Lm} {pos : Pos} (LA : LamAt X P) (df : defaultsOf L.params X.env = ([], [])) (has : X.Ok → ∀ y ∈ L.scope.names, y.2 = .free → ∃ c, X.env.cells.lookup y.1 = some c) : PE X (.Lambda L.params L.body L.scope pos) (tLm X P L) := by
  constructor
  intro pins s σ H Q I hh
  obtain ⟨ps, hP, ⟨ht, hk⟩, go⟩ := hh
  obtain ⟨c, tb, code⟩ := LA.ex
  have low : ∀ f : Addr, s.heap.objs.size ≤ f → X.s_0.heap.get? f = none ∧ f ≠ X.env.locals ∧ ∀ p ∈ X.pn ++ pins, p.1 ≠ f := fun f hf => by
    have out : ∀ o, s.heap.get? f ≠ some o := fun o e => Nat.lt_irrefl _ (Nat.lt_of_lt_of_le (Heap.lt_size e) hf)
    refine ⟨?_, fun e => ?_, fun p hp e => ?_⟩
    · cases e : X.s_0.heap.get? f with
      | none => rfl
      | some o =>
        obtain ⟨o', q⟩ := I.base.there f o e (by rw [LA.hex]; simp)
        exact absurd q (out _)
    · have := I.lt
      rw [← e] at this
      exact Nat.lt_irrefl _ (Nat.lt_of_lt_of_le this hf)
    · have := (I.pin p hp).1
      rw [e] at this
      exact absurd this (out _)
  have fin : ∀ {f c' : Addr} {pm ctv : Value} {H1 : Hp} {s1 : Shared}, s.heap.objs.size ≤ f → Inv X pins σ H1 s1 → s1.heap.get? f = some (PySem.W.kla_obj "<lambda>" (lqX X) L.params L.body L.scope (cloX X L) pm c' ctv) → H1 f = none → Coded H P (lqX X) ps c' H1 →
      EP X pins σ Q (.ref f) s1 := fun {f c' pm ctv H1 s1} hf J at_ nf cd => by
    obtain ⟨l1, l2, l3⟩ := low f hf
    exact ⟨.ref f, _, track (o := LamO L (lqX X) (cloX X L) c' f) J at_ (fun v z => by cases z) nf l1 l2 l3 ⟨⟨pm, ctv, at_⟩, ⟨_, at_⟩, fun h1 h2 ⟨pm2, ctv2, e⟩ st => ⟨pm2, ctv2, st _ e⟩⟩, rfl, go f c' H1 cd nf⟩
  refine PySem.W.kla_eval df ?_
  have bm : s.heap.BuiltinsAt X.mg P := tb.bm.keeps I.bk
  have atP : s.heap.get? P = some { cls := .none, data := .fields ps } := I.hok P _ hP
  have gl := I.mod.glob.keeps I.bk
  have clo := closure_ok (scope := L.scope) (env := X.env) (has I.ok)
  have chd := tb.code.keeps I.bk
  cases look : codeAmong pos ps.toList with
  | some cv =>
    obtain ⟨c', rfl, hc⟩ := hk pos cv look
    refine PySem.W.kla_makeFunctionHit clo I.ok.glob gl code chd atP ht look bm fun ctv h' tk old big => ?_
    exact fin (f := h'.objs.size) (c' := c') big (I.kept fun b o e => Heap.get?_push_of_some _ (old b o e)) (Heap.get?_push_size _ rfl) (I.hok.fresh big) (.hit hc ⟨_, look⟩)
  | none =>
    refine PySem.W.kla_makeFunction clo I.ok.glob gl code chd atP ht look tb.gP bm fun c' ctv h' tk ext big lt rec_ at2 => ?_
    obtain ⟨c2, oc, vs, t, e2, hoc, hd, hv⟩ := rec_
    cases e2
    have nc : H c' = none := I.hok.fresh big
    have big2 : s.heap.objs.size ≤ h'.objs.size := Nat.le_trans big (Nat.le_of_lt lt)
    have J := inv_table (q := (lqX X)) (t' := tk) (more := #[rawInt pos.line, rawInt pos.col, .ref c']) (c := c') (h' := h'.push (PySem.W.kla_obj "<lambda>" (lqX X) L.params L.body L.scope (cloX X L) ((X.mg "__name__").getD .none) c' ctv)) I hP
      (fun b o nb e => Heap.get?_push_of_some _ (ext b o nb e)) (Heap.get?_push_of_some _ at2) big ⟨oc, vs, t, Heap.get?_push_of_some _ hoc, hd, hv⟩
    have tl : (ps ++ #[rawInt pos.line, rawInt pos.col, Value.ref c']).toList = ps.toList ++ [rawInt pos.line, rawInt pos.col, Value.ref c'] := by simp
    refine fin (f := h'.objs.size) (c' := c') big2 J (Heap.get?_push_size _ rfl) ?_ (.new _ nc (by rw [tl]; exact PySem.TriplesOk_snoc _ _ _ _ ht) fun p2 cv h2 => ?_)
    · have d1 : h'.objs.size ≠ c' := Nat.ne_of_gt lt
      have d2 : h'.objs.size ≠ P := Nat.ne_of_gt (Nat.lt_of_lt_of_le (Heap.lt_size atP) big2)
      rw [upd_ne d1, upd_ne d2]
      exact I.hok.fresh big2
    · rw [tl] at h2
      exact among_app _ ht h2
theorem pe_lm {P : Addr} {L : Lm} {pos : Pos} (LA : LamAt X P) (LO : LmOk X L) : PE X (.Lambda L.params L.body L.scope pos) (tLm X P L) := pe_lm0 LA LO.df LO.sc.has
end
end DL
namespace DL
open PySem PySem.Spec PyProof.Rows L2 LamX
section
variable {X : Cx} {pins : List (Addr × Obj)} {σ : Sgm} {H : Hp} {s : Shared}
abbrev gCx (X : Cx) (Ng : List Str) (qg : Str) (sg : Scope) (g : Addr) (cdg : Value) (s : Shared) (H : Hp) : Cx := cxOf C8.CX0 X.prog X.w X.K X.mg X.base Ng qg sg g cdg X.A X.stack s H C8.E0
theorem pe_acts {Ng : List Str} {qg : Str} {sg : Scope} {g f c' : Addr} {cdg : Value} {L : Lm} {k i : Nat} {a : Str} {pn : List (Addr × Obj)} {xe : Value → Shared → Prop} {W : WX} {E : XK} {tb : TE} {p1 p2 : Pos}
    (I : Inv X pins σ H s) (LO : LmOk X L) (tk : Takes ((gCx X Ng qg sg g cdg s H).tr pn xe) W) (hW : ∀ cls d σ' H', E cls d H' → W cls d σ' H') (room : Room (k + 1) (X.A.deeper (envOfC qg sg s.heap.objs.size g cdg)))
    (body : ∀ (A : Around) (outer : List Env) (s1 : Shared) (H1 : Hp), Room k (A.deeper (lamEnv X L.scope s1.heap.objs.size f c')) → PE (lamCx X A outer s1 H1 E L.scope f c') L.body tb)
    (hN : Ng[i]? = some a) (hv : Vis sg a) (hd : (a == ("__debug__" : Str)) = false) (hcd : (a == ("__classdict__" : Str)) = false) :
    PE ((gCx X Ng qg sg g cdg s H).tr pn xe) (.Call (.Name a p1) [] [] p2)
      (fun σZ HZ Q => σZ[i]? = some (some (.ref f)) ∧ HZ c' = some (CodeO c' (lqX X)) ∧ HZ f = some (LamO L (lqX X) (cloX X L) c' f) ∧ tb σ HZ Q) := by
  constructor
  intro pinsZ t σZ HZ Q J hh
  obtain ⟨slot, code, fun_, run⟩ := hh
  refine wpAny_Call_Name_kw (thn ((pe_var (pos := p1) hN hv hd hcd).run pinsZ t σZ HZ (fun v H1 => v = .ref f ∧ H1 = HZ) J ⟨.ref f, slot, rfl, rfl⟩) fun u t1 got => ?_)
  obtain ⟨v, H1, J1, rv, rfl, rfl⟩ := got
  obtain rfl : u = Value.ref f := rv
  obtain ⟨⟨pm, ctv, fo⟩, _, _⟩ := J1.hok f _ fun_
  obtain ⟨⟨oc, us, tt, co, cd, cv⟩, _, _⟩ := J1.hok c' _ code
  refine PySem.W.callWith_F0 ⟨_, _, _, _, fo⟩ ?_
  have since : Un (frs X.stack) [] H H1 s.heap t1.heap := J1.base
  have called : codeAny (model X.prog X.w) (X.A.deeper (envOfC qg sg s.heap.objs.size g cdg)) (.call (.ref f) ⟨[], []⟩) (CR (L2.CX X.prog X.w) (envOfC qg sg s.heap.objs.size g cdg :: X.stack) X.prog X.w H1 t1 Q E) t1 := by
    refine PySem.W.kla_callFunE room.depth fo rfl LO.sc.co LO.sc.gen rfl ⟨c', oc, us, tt, rfl, co, cd, cv⟩ ?_
    rw [LO.bn]
    refine wpAny_pure (wpAny_newFunctionEnv (fun y hy => (LO.sc.own y hy).2) (fun y hy => absurd hy (by simp)) (fun h1 names same => ⟨J1.nolimit.fresh _ same, ?_⟩) LO.sc.kind)
    have keep : ∀ b o, t1.heap.get? b = some o → h1.get? b = some o := fun b o e => same.extBut b o (Nat.ne_of_lt (Heap.lt_size e)) (Heap.get?_push_of_some _ e)
    have start := lam_start2 (E := E) (f := f) (c' := c') (tk := t1.toks + ([] : List (Str × Value)).length) I LO.sc J1.env0 room.hd since names keep
    refine PySem.W.kla_codeExpr (wpAny_mono ((body _ _ t1 H1 (room.deeper _)).run [] _ _ H1 Q start run) (fun v t2 fin => ?_) fun e t2 fin => fin)
    obtain ⟨w, H2, J2, rv, q⟩ := fin
    exact ⟨w, H2, J2.os, J2.bare, J2.base, J2.hok, rv, q⟩
  refine wpAny_call (codeAny_mono called fun r t2 fin => ?_)
  match r, fin with
  | .error e, fin => exact passes_call (X := (gCx X Ng qg sg g cdg s H).tr pn xe) tk hW pinsZ σZ H1 t1 e t2 J1 fin
  | .ok (.ret u), fin => exact J1.after fin
def tGive (X : Cx) (TT : (XK → Hp → VK → Prop) → Hp → VK → Prop) (Ls : Lm → (XK → TE) → Prop) (te : TE) : TE := fun σ H Q =>
  te σ H fun v H1 => ∃ (f c' : Addr) (L : Lm) (t : XK → TE), Ls L t ∧ v = .ref f ∧ H1 c' = some (CodeO c' (lqX X)) ∧ TT (fun E H' Q' => H' f = some (LamO L (lqX X) (cloX X L) c' f) ∧ t E σ H' Q') H1 Q
theorem pe_give {TT : (XK → Hp → VK → Prop) → Hp → VK → Prop} {Ls : Lm → (XK → TE) → Prop} {x a : Str} {g : Addr} {k : Nat} {pg : Arguments} {bg : List Stmt} {sg : Scope} {dV kV doc pm cdv ct oc : Value} {an od : Option Addr} {osl : Array (Option Value)} {Ng : List Str} {e : Expr} {te : TE} {p pos : Pos}
    (hg : Gl X x) (hm : X.mg x = some (.ref g)) (hk : PySem.W.keepIn X.K (.ref g) = true) (lk : X.K.lookup g = some ⟨oc, od, .func (PySem.W.fnOf x x pg bg sg dV kV doc pm an cdv ct), osl⟩) (hcg : PySem.W.codeIn X.K cdv x = true)
    (hb : L2.Binds X.K (PySem.W.fnOf x x pg bg sg dV kV doc pm an cdv ct) [a] []) (Sg : FnScope Ng [a] sg) (hNg : Ng[0]? = some a) (hva : Vis sg a) (G : GivesTo X Ng x sg g cdv bg a (lqX X) TT) (room : Room (k + 2) X.A)
    (lams : ∀ L t, Ls L t → LmOk X L ∧ ∀ (A : Around) (outer : List Env) (s1 : Shared) (H1 : Hp) (E : XK) (f c' : Addr), Room k (A.deeper (lamEnv X L.scope s1.heap.objs.size f c')) → PE (lamCx X A outer s1 H1 E L.scope f c') L.body (t E))
    (pe : PE X e te) (hdb : (x == ("__debug__" : Str)) = false) (hd : (a == ("__debug__" : Str)) = false) (hcd : (a == ("__classdict__" : Str)) = false) (he : starEach [e] X.env = (false, eval e X.env) :: starEach [] X.env) :
    PE X (.Call (.Name x p) [e] [] pos) (tGive X TT Ls te) := by
  constructor
  intro pins s σ H Q I hh
  refine wpAny_Call_Name_kw (ld_glob I hg hm ?_ hdb)
  refine PySem.W.callWith_K (h₀ := X.base) I.ok.mod.kin hk ?_ he (by rfl)
  rw [he]
  show wpAny _ _ (spliced ((false, eval e X.env) :: backTo pos (starEach [] X.env))) _ _ s
  refine Calls.spliced_cons (thn (pe.run pins s σ H _ I hh) fun u s1 got => ?_)
  obtain ⟨v, H1, I1, rv, f, c', L, t, hL, rfl, hco, go⟩ := got
  obtain rfl : u = Value.ref f := rv
  refine Calls.spliced_nil ⟨I1.kIn, ?_⟩
  obtain ⟨LO, lb⟩ := lams L t hL
  have called : codeAny (model X.prog X.w) X.A (.call (.ref g) ⟨[.ref f], []⟩) (CR C8.CX0 X.stack X.prog X.w H1 s1 Q C8.E0) s1 := by
    refine run_ofS (N := Ng) (ps := [a]) (us := [.ref f]) (vs := [.ref f]) lk hcg Sg room I1.env0 (hb s1 [.ref f] I1.kIn rfl) (.cons rfl .nil) rfl fun room' => ?_
    obtain ⟨t', ht', hq'⟩ := G f c' s1 H1 Q (fun E H' Q' => H' f = some (LamO L (lqX X) (cloX X L) c' f) ∧ t E σ H' Q')
      (fun W pn xe E p1 p2 tk hW => pe_acts (i := 0) I1 LO tk hW room' (fun A outer s2 H2 r2 => lb A outer s2 H2 E f c' r2) hNg hva hd hcd) hco go
    exact ⟨t', ht'.nox, hq'⟩
  refine wpAny_call (codeAny_mono called fun r s2 fin => ?_)
  match r, fin with
  | .ok (.ret u), fin => exact I1.after fin
end
end DL
namespace DL
open PySem PySem.Spec PyProof.Rows L2 LamX
structure ErrC (K : PySem.W.Frag) (mg : Str → Option Value) (x : Str) (C CP : Addr) : Prop where
  g : mg x = some (.ref C)
  kp : PySem.W.keepIn K (.ref C) = true
  q : PySem.W.excIn K C [.type "ValueError", .type "Exception", .type "BaseException", .type "object"] "ValueError.__new__" = true
  sb : PySem.W.subIn K (.ref C) (.type "BaseException") = some true
  ty : PySem.W.typeIn K (.ref C) = some (.type "type")
  is : ExcC K C
  pe : PySem.W.exmOne K (.ref C) (.ref CP) = some true
theorem errC_mk {K : PySem.W.Frag} {h : Heap} {mg : Str → Option Value} {x : Str} {C CP : Addr} (X : K.In h) (G : h.Ns mainGlobals mg)
    (a : PySem.W.nsIn K mainGlobals x = some (some (.ref C))) (kp : PySem.W.keepIn K (.ref C) = true)
    (q : PySem.W.excIn K C [.type "ValueError", .type "Exception", .type "BaseException", .type "object"] "ValueError.__new__" = true)
    (sb : PySem.W.subIn K (.ref C) (.type "BaseException") = some true) (ty : PySem.W.typeIn K (.ref C) = some (.type "type")) (hd : PySem.W.hasDictIn K C = true)
    (ga : PySem.W.findIn K (.ref C) "__getattribute__" = some (some (.builtin "BaseException.__getattribute__"))) (gt : PySem.W.findIn K (.ref C) "__getattr__" = some none)
    (ca : PySem.W.findIn K (.ref C) "__class__" = some (some (.builtin "object.__class__"))) (mr : PySem.W.mroIn K C (.type "object") = some true)
    (cp : PySem.W.subIn K (.ref C) (.ref CP) = some true)
    (hn : PySem.W.specialIn K (.builtin "object.__class__") "__get__" = some (some (.builtin "getset_descriptor.__get__"))) (ht : PySem.W.takesIn K (.builtin "object.__class__") = some true)
    (psb : PySem.W.subIn K (.ref CP) (.type "BaseException") = some true) (phd : PySem.W.hasDictIn K CP = true) (pty : PySem.W.typeIn K (.ref CP) = some (.type "type")) : ErrC K mg x C CP :=
  ⟨PySem.W.mg_of X G a, kp, q, sb, ty, ⟨ga, gt, sb, hd, ca, hn, ht, mr⟩, PySem.W.exm_ref psb phd pty cp⟩
theorem ds_raise {X : Cx} {E : XK} {x m : Str} {C CP : Addr} {j : Nat} {p p2 pos pos' : Pos} (hc : X.calm = true) (tk : Takes X (fun cls d _ H => E cls d H)) (R : ErrC X.K X.mg x C CP) (hg : Gl X x)
    (hdb : (x == ("__debug__" : Str)) = false := by decide) :
    DS X E (.Raise (some (.Call (.Name x p) [.Constant (.str m) j p2] [] pos)) none pos') (fun _ _ H => E (.ref C) none H) (fun a A => A.xb ⟨.ref C, none⟩ a) :=
  ⟨ps_raise hc tk (pmk_own PySem.F.excBase_ValueError R.q R.g R.kp (raises_own R.sb R.ty) hg hdb), fun a A h σ F H fps x D e => e.xb _ _ _ none F H fps h x (Le.refl _ _ _) rfl rfl rfl⟩
def rIsEr (K : PySem.W.Frag) (C : Addr) : List V → Hp → VK → Prop := fun xs H Q => ∃ (a D : Addr) (c : V) (b : Bool), xs = [.ref a, c] ∧ (∀ u, RelV c u → u = .ref C) ∧ H a = some (ErrO (.ref D) none a) ∧ ExcC K D ∧ PySem.W.kitOne K (.ref D) (.ref C) = some b ∧ Q (.bl b) H
theorem cr_isEr {X : Cx} {C : Addr} : CallR X (.builtin "isinstance") (rIsEr X.K C) := by
  intro pins s σ H xs us Q I r h
  obtain ⟨a, D, c, b, rfl, hcv, ha, ex, e, q⟩ := h
  cases r with
  | cons rx rr =>
    cases rr with
    | cons rt rr =>
      cases rr
      cases rx
      have ec := hcv _ rt
      subst ec
      obtain ⟨⟨oe, vs, hget, hz, hv⟩, _⟩ := I.hok a _ ha
      have J : PySem.W.InstAt s.heap a oe D none := by
        obtain ⟨oc, od, oda, osl⟩ := oe
        obtain ⟨h1, h2⟩ := hz
        dsimp only at h1 h2 hv
        subst h1 h2 hv
        exact ⟨hget, rfl, rfl, trivial⟩
      exact PySem.W.kia_one (PySem.W.handS_kitx_exc ex.hg ex.hk ex.hs ex.hd ex.ha ex.hn ex.ht ex.hm) I.kIn J e (fun z => nomatch z) fun tk => ⟨.bl b, H, I.kept (t' := tk) fun _ _ z => z, rfl, q⟩
def errA : Ev → Option Addr
  | .er ⟨.ref D, none⟩ => some D
  | _ => none
theorem errA_e (D : Addr) : errA (.er ⟨.ref D, none⟩) = some D := rfl
def gIsEr (C : Addr) : GC := fun a xs K => ∃ x y D, xs = [x, y] ∧ y = .v (.ref C) ∧ errA x = some D ∧ D = C ∧ K (.d (.bool true))
theorem errA_some {r : Ev} {D : Addr} (h : errA r = some D) : r = .er ⟨.ref D, none⟩ := by
  unfold errA at h
  split at h
  · cases h; rfl
  · cases h
theorem d_isEr {X : Cx} {x : Str} {C CP : Addr} (R : ErrC X.K X.mg x C CP) : CallR X (.builtin "isinstance") (rIsEr X.K C) ∧ RCS (rIsEr X.K C) (gIsEr C) := by
  refine ⟨cr_isEr, ?_⟩
  intro a σ F H fps xs vs x o Kz k Q q
  obtain ⟨y, z, D, rfl, rfl, e, rfl, k⟩ := k
  obtain ⟨v, u, rfl, h1, h2⟩ := vals_two o
  have := errA_some e
  subst this
  obtain ⟨b, d, rfl, hb, hx⟩ := h1
  have hd : d = none := hx
  subst hd
  have hu : u = .ref D := h2
  subst hu
  exact ⟨b, D, .ref D, true, rfl, fun u r => r, x.sub _ _ hb, R.is, by unfold PySem.W.kitOne; rw [if_pos (by simp)], q _ _ _ _ k x (Le.refl _ _ _) (.bl true) trivial⟩
end DL
namespace DL
open PySem PySem.Spec PyProof.Rows L2 LamX
theorem CodesF.inH {F H : Hp} {q : Str} {ps : Array Value} (s : Sub F H) (h : CodesF F q ps) : CodesIn H q ps := ⟨h.1, fun pos cv e => let ⟨c, e1, e2⟩ := h.2 pos cv e; ⟨c, e1, s _ _ e2⟩⟩
theorem AOk.table {a : AS} {σ : Sgm} {F H : Hp} {fps : List (List Addr)} {k : Nat} {P c' : Addr} {q : Str} {more : Array Value} (x : AOk a σ F H fps) (hk : fps[k]? = some [P]) (e : a.ow[k]? = some (.tb P q)) (n : H c' = none)
    (hP : ∃ o, H P = some o) (hc : CodesF (upd F c' (CodeO c' q)) q more) : AOk a σ (upd F c' (CodeO c' q)) (upd (upd H P (.tbl more)) c' (CodeO c' q)) fps ∧ Le F H fps.flatten (upd F c' (CodeO c' q)) (upd (upd H P (.tbl more)) c' (CodeO c' q)) fps.flatten := by
  obtain ⟨o, hP⟩ := hP
  have nPc : P ≠ c' := ne_of_none hP n
  have fP : F P = none := x.nf P (flat_mem hk (by simp))
  have fc : F c' = none := x.sub.gone n
  have subF : Sub F (upd F c' (CodeO c' q)) := Sub.put fc
  have other : ∀ b u, b ≠ P → H b = some u → upd (upd H P (.tbl more)) c' (CodeO c' q) b = some u := fun b u h1 h2 => by
    rw [upd_ne (ne_of_none h2 n), upd_ne h1]; exact h2
  refine ⟨{ sub := fun b u hb => ?_, nd := x.nd, len := x.len, own := fun j fp c e1 e2 => ?_, nf := fun p hp => ?_, ln := x.ln, sl := fun i s e => (x.sl i s e).mono subF, nn := x.nn, tp := fun b xs e => ?_ }, { fr := subF, hp := fun b u hb h2 => ?_, nw := fun b hb => ?_, pw := fun b h => .inl h, ex := fun b hb => ?_ }⟩
  · by_cases h : b = c'
    · subst h; rw [upd_same] at hb ⊢; exact hb
    · rw [upd_ne h] at hb
      exact other b u (fun z => by rw [z, fP] at hb; cases hb) (x.sub b u hb)
  · by_cases hj : j = k
    · subst hj
      rw [e] at e2
      cases e2
      rw [hk] at e1
      cases e1
      exact ⟨rfl, more, by rw [upd_ne nPc, upd_same], hc⟩
    · refine (x.own j fp c e1 e2).mono subF fun p hp u hu => other p u (fun z => ?_) hu
      subst z
      exact hj (cells_apart x e1 hk hp (by simp))
  · rw [upd_ne (fun z => ?_)]
    · exact x.nf p hp
    · obtain ⟨u, hu⟩ := x.there p hp
      rw [z, n] at hu; cases hu
  · have := tp_upd (F := upd F c' (CodeO c' q)) (tp_upd (F := upd F c' (CodeO c' q)) (fun b xs e => subF _ _ (x.tp b xs e)) (p := P) (o := .tbl more)) (p := c') (o := CodeO c' q) (fun _ z => nomatch z)
    exact this b xs e
  · refine other b u (fun z => hb ?_) h2
    subst z
    exact flat_mem hk (by simp)
  · by_cases h : b = c'
    · subst h; exact .inr (.inl n)
    · rw [upd_ne h] at hb; exact .inl hb
  · by_cases h : b = c'
    · subst h; exact n
    · rw [upd_ne h] at hb
      by_cases h2 : b = P
      · subst h2; rw [upd_same] at hb; cases hb
      · rw [upd_ne h2] at hb; exact hb
def wCaught (k : Nat) (P : Addr) (q : Str) (K0 : PySem.W.Frag) (CS : Addr) (wb : WE) : WE := fun a K B => a.ow[k]? = some (.tb P q) ∧
  wb a (fun _ a1 => K (.d .none) a1) (fun x a1 => so (errA (.er x)) fun D => side (PySem.W.exmOne K0 (.ref D) (.ref CS) = some true) (K (.er x) a1))
theorem e_caught {P : Addr} {q : Str} {K0 : PySem.W.Frag} {CS : Addr} {wb : WE} {sl : List Sl} {ow : List Own} {n : Nat} {K : Ev → AS → Prop} {B : XD → AS → Prop} : wCaught 0 P q K0 CS wb ⟨sl, .tb P q :: ow, n⟩ K B =
    wb ⟨sl, .tb P q :: ow, n⟩ (fun _ a1 => K (.d .none) a1) (fun x a1 => so (errA (.er x)) fun D => side (PySem.W.exmOne K0 (.ref D) (.ref CS) = some true) (K (.er x) a1)) :=
  propext ⟨fun h => h.2, fun h => ⟨rfl, h⟩⟩
theorem xd_caught {a : AS} {σ : Sgm} {F H F' H' : Hp} {fps : List (List Addr)} {x : XD} {d : Option Addr} {p : Addr} (ok : AOk a σ F' H' fps) (l : Le F H fps.flatten F' H' fps.flatten) (hf : x.fs = none) (hd : XdOk F' H' fps x d) (np : H' p = none) :
    AOk a σ (upd F' p (ErrO x.cls d p)) (upd H' p (ErrO x.cls d p)) fps ∧ Le F H fps.flatten (upd F' p (ErrO x.cls d p)) (upd H' p (ErrO x.cls d p)) fps.flatten ∧ ErOk (upd F' p (ErrO x.cls d p)) x (.ref p) := by
  refine ⟨ok.newF np, l.trans (Le.newF ok.sub np), p, d, rfl, upd_same, ?_⟩
  unfold XdOk at hd
  unfold XfOk
  rw [hf] at hd ⊢
  exact hd
theorem snd_caught {X : Cx} {E : XK} {k : Nat} {P CS : Addr} {L : Lm} {tb : XK → TE} {wb : WE} (hb : ∀ E', SndE E' (tb E') wb) :
    SndE E (tGive X (TTc X.K CS) (fun L' t => L' = L ∧ t = tb) (tLm X P L)) (wCaught k P (lqX X) X.K CS wb) := by
  intro a K B ⟨hk, h⟩ σ F H fps x Q q _
  obtain ⟨P', ps, e1, hfp⟩ : ∃ P' ps, fps[k]? = some [P] ∧ H P = some (.tbl ps) ∧ CodesF F (lqX X) ps ∧ P' = P := by
    obtain ⟨fp, hfp⟩ : ∃ fp, fps[k]? = some fp := by
      have := (List.getElem?_eq_some_iff.mp hk).1
      rw [← x.len] at this
      exact ⟨_, List.getElem?_eq_getElem this⟩
    obtain ⟨rfl, ps, h1, h2⟩ := x.own k fp _ hfp hk
    exact ⟨P, ps, hfp, h1, h2, rfl⟩
  obtain ⟨hP, hc, rfl⟩ := hfp
  refine ⟨ps, hP, hc.inH x.sub, fun f c' H1 cd nf => ?_⟩
  obtain ⟨F1, x1, l1, hco⟩ : ∃ F1, AOk a σ F1 H1 fps ∧ Le F H fps.flatten F1 H1 fps.flatten ∧ H1 c' = some (CodeO c' (lqX X)) := by
    cases cd with
    | hit h _ => exact ⟨F, x, Le.refl _ _ _, h⟩
    | new more n t kk =>
      have cf : CodesF (upd F c' (CodeO c' (lqX X))) (lqX X) more := ⟨t, fun pos cv e => by
        rcases kk pos cv e with z | z
        · obtain ⟨c, z1, z2⟩ := hc.2 pos cv z
          refine ⟨c, z1, ?_⟩
          rw [upd_ne (ne_of_none (x.sub _ _ z2) n)]; exact z2
        · exact ⟨c', z, upd_same⟩⟩
      obtain ⟨y1, y2⟩ := x.table e1 hk n ⟨_, hP⟩ cf
      exact ⟨_, y1, y2, upd_same⟩
  have x2 : AOk a σ F1 (upd H1 f (LamO L (lqX X) (cloX X L) c' f)) fps := x1.newH nf
  have l2 := l1.trans (Le.newH (F := F1) (P := fps.flatten) (o := LamO L (lqX X) (cloX X L) c' f) nf)
  refine ⟨f, c', L, tb, ⟨rfl, rfl⟩, rfl, ?_, ?_⟩
  · rw [upd_ne (ne_of_none hco nf)]; exact hco
  refine ⟨upd_same, hb _ a _ _ h σ F1 _ fps x2 _ (fun r a' v F' H' k1 n1 x3 l3 o w => ?_) fun y a' d F' H' k1 n1 x3 l3 o => ?_⟩
  · exact q _ a' _ F' H' k1 n1 x3 (l2.trans l3) .non trivial
  · obtain ⟨D, hD, he, k1⟩ := so_e k1
    have hy := errA_some hD
    cases hy
    refine ⟨he, fun p np => ?_⟩
    have hf : (XD.mk (.ref D) none).fs = none := rfl
    obtain ⟨y1, y2, y3⟩ := xd_caught x3 (l2.trans l3) hf o np
    exact q _ a' _ _ _ k1 n1 y1 y2 y3 trivial
end DL
namespace DL
open PySem PySem.Spec PyProof.Rows L2 LamX
structure CalL (K : PySem.W.Frag) (mg : Str → Option Value) (CS : Addr) : Prop where
  ex : ∃ (st : Stmt) (f : Addr) (fd : FuncData) (e : Str), Fun K "_law_caught" "_law_caught" st f fd ∧ mg "_law_caught" = some (.ref f) ∧ PySem.W.keepIn K (.ref f) = true ∧ Binds K fd ["work"] [] ∧ FnScope ["work", "caught", "error"] ["work"] (defScope st) ∧
    (defScope st).names.lookup e = some .globalImplicit ∧ mg e = some (.ref CS) ∧ (e == ("__debug__" : Str)) = false ∧ Vis (defScope st) "work" ∧ (defScope st).names.lookup ("caught" : Str) = some .local ∧ (defScope st).names.lookup ("error" : Str) = some .local ∧
    ∃ (j : Nat) (a1 a2 a3 b1 b2 b3 c1 c2 c3 d1 d2 d3 r1 r2 : Pos), defBody st = [.Assign [.Name "caught" a1] (.Constant .none j a2) a3,
        .Try [.Expr (.Call (.Name "work" b1) [] [] b2) b3] [.ExceptHandler (some (.Name e c1)) (some "error") [.Assign [.Name "caught" d1] (.Name "error" d2) d3] c2] [] [] c3,
        .Return (some (.Name "caught" r1)) r2]
theorem de_caught {X : Cx} {E : XK} {CS P : Addr} {params : Arguments} {body : Expr} {scope : Scope} {tb : XK → TE} {wb : WE} {p lpos pos : Pos} (ki : Nat) (k : Nat) (C : CalL X.K X.mg CS) (room : Room (k + 2) X.A) (hg : Gl X "_law_caught") (LA : LamAt X P)
    (sc : LamS X.env.scope scope) (df : defaultsOf params X.env = ([], [])) (bn : ∀ (q : Str) (cl : List (Str × Addr)) (pm cv ctv : Value), bindArgs (PySem.W.kla_fn "<lambda>" q params body scope cl pm cv ctv) ⟨[], []⟩ = pure [])
    (hb : ∀ (A : Around) (outer : List Env) (s1 : Shared) (H1 : Hp) (E' : XK) (f c' : Addr), Room k (A.deeper (lamEnv X scope s1.heap.objs.size f c')) → DE (lamCx X A outer s1 H1 E' scope f c') E' body (tb E') wb)
    (he : starEach [Expr.Lambda params body scope lpos] X.env = (false, eval (Expr.Lambda params body scope lpos) X.env) :: starEach [] X.env := by rfl) :
    DE X E (.Call (.Name "_law_caught" p) [.Lambda params body scope lpos] [] pos) (tGive X (TTc X.K CS) (fun L' t => L' = ⟨params, body, scope⟩ ∧ t = tb) (tLm X P ⟨params, body, scope⟩)) (wCaught ki P (lqX X) X.K CS wb) := by
  obtain ⟨st, f, fd, e, F, hm, hk, hbd, S, he1, he2, he3, v1, v2, v3, j, a1, a2, a3, b1, b2, b3, c1, c2, c3, d1, d2, d3, r1, r2, eb⟩ := C.ex
  obtain ⟨oc, od, kV, doc, pm, an, cdv, ct, osl, rfl, lk, hcd⟩ := F.ex
  have LO : LmOk X ⟨params, body, scope⟩ := ⟨sc, df, bn⟩
  refine ⟨pe_give (k := k) hg hm hk lk hcd hbd S rfl v1 ?_ room (fun L t hL => ?_) (pe_lm LA LO) (by decide) (by decide) (by decide) he, snd_caught fun E' => ?_⟩
  · rw [eb]
    exact caught_gives (k := "caught") (c := "caught") (b4 := ⟨0, 0, 0, 0⟩) (c4 := ⟨0, 0, 0, 0⟩) S he1 he2 he3 v1 v2 v3
  · obtain ⟨rfl, rfl⟩ := hL
    exact ⟨LO, fun A outer s1 H1 E' f c' r => (hb A outer s1 H1 E' f c' r).pe⟩
  · exact (hb (X.A.deeper X.env) [] X.s_0 X.H_0 E' 0 0 ((room.deeper _).deeper _)).so
theorem de_caughtK {X : Cx} {E : XK} {CS P : Addr} {params : Arguments} {body : Expr} {scope : Scope} {tb : XK → TE} {wb : WE} {p lpos pos : Pos} (K0 : PySem.W.Frag) (q0 : Str) (ki : Nat) (k : Nat) (C : CalL X.K X.mg CS) (room : Room (k + 2) X.A) (hg : Gl X "_law_caught") (LA : LamAt X P)
    (sc : LamS X.env.scope scope) (df : defaultsOf params X.env = ([], [])) (bn : ∀ (q : Str) (cl : List (Str × Addr)) (pm cv ctv : Value), bindArgs (PySem.W.kla_fn "<lambda>" q params body scope cl pm cv ctv) ⟨[], []⟩ = pure [])
    (hb : ∀ (A : Around) (outer : List Env) (s1 : Shared) (H1 : Hp) (E' : XK) (f c' : Addr), Room k (A.deeper (lamEnv X scope s1.heap.objs.size f c')) → DE (lamCx X A outer s1 H1 E' scope f c') E' body (tb E') wb)
    (he : starEach [Expr.Lambda params body scope lpos] X.env = (false, eval (Expr.Lambda params body scope lpos) X.env) :: starEach [] X.env := by rfl) (hK : X.K = K0 := by rfl) (hq : lqX X = q0 := by rfl) :
    DE X E (.Call (.Name "_law_caught" p) [.Lambda params body scope lpos] [] pos) (tGive X (TTc X.K CS) (fun L' t => L' = ⟨params, body, scope⟩ ∧ t = tb) (tLm X P ⟨params, body, scope⟩)) (wCaught ki P q0 K0 CS wb) := by
  subst hK hq
  exact de_caught ki k C room hg LA sc df bn hb he
theorem fngxC {P : Program} {w : World} {K : PySem.W.Frag} {mg : Str → Option Value} {base : Heap} {gd : Bool} {k : Nat} {f cc : Addr} {x qual : Str} {st : Stmt} {fd : FuncData} {N ps : List Str} {c : Ct} (F : Fun K x qual st f fd) (S : FnScope N ps (defScope st)) (hcc : fd.code = .ref cc)
    (h : ∃ ws : WS, (∀ (A : Around) (outer : List Env) (s : Shared) (H : Hp) (E : XK), Room k (A.deeper (envOfC qual (defScope st) s.heap.objs.size f (.ref cc))) → (A.deeper (envOfC qual (defScope st) s.heap.objs.size f (.ref cc))).units + 200 < cLine → (gd = true → A.guards = some []) →
      ∃ ts, DSs (cxD P w K mg base N qual (defScope st) f (.ref cc) A outer s H E) E (defBody st) ts ws) ∧
      ∀ args ow KQ KB, args.length = ps.length → c args ow KQ KB → ws (a0 N args ow) (endsOf KQ KB)) : FnG P w K mg base gd (k + 1) f fd ps (spOf ps.length c) := by
  obtain ⟨ws, h1, h2⟩ := h
  have G : ∀ (cdv : Value), fd.code = cdv → ∀ (A : Around) (outer : List Env) (s : Shared) (H : Hp) (E : XK), Room k (A.deeper (envOfC qual (defScope st) s.heap.objs.size f cdv)) → (gd = true → A.guards = some []) →
      ∃ ts, DSs (cxD P w K mg base N qual (defScope st) f cdv A outer s H E) E (defBody st) ts ws := fun cdv hc A outer s H E hr hgd => by
    rw [hcc] at hc
    subst hc
    exact h1 A outer s H E hr (hu200 hr) hgd
  exact fngC F S G h2
def ctLawT (K : PySem.W.Frag) (n : Nat) (P : Addr) (q : Str) : Ct := fun args ow KQ _ => ∃ ns, args = [.sc K ns] ∧ ow = [.tb P q] ∧ ns.length ≤ n ∧ KQ (.d (.bool true)) [.tb P q]
theorem law_specT {Pr : Program} {w : World} {K : PySem.W.Frag} {n : Nat} {a P : Addr} {q : Str} {ns : List Int} {H : Hp} {h : Heap} (fr : Fresh Pr w K [P] a H h) (lk : Lk K ns H a) (hl : ns.length ≤ n) : spOf 1 (ctLawT K n P q) [.ref a] H (fun v _ => v = .bl true) fun _ _ _ => False := by
  have hP : H P = some (.tbl #[]) := fr.tb P (by simp)
  have lk' : Lk K ns (fun b => if b = P then none else H b) a := by
    rcases lk with ⟨o, e⟩ | k
    · refine .inl ⟨o, ?_⟩
      have : a ≠ P := fun z => by rw [z, hP] at e; cases e
      show (if a = P then none else H a) = _
      rw [if_neg this]; exact e
    · exact .inr k
  refine ⟨[.sc K ns], [.tb P q], fun b => if b = P then none else H b, [[P]], fun r _ => r = .d (.bool true), fun _ _ => False, rfl, ⟨fun b o e => ?_, by simp, rfl, fun k fp c e e2 => ?_, fun p hp => ?_, rfl, fun i s e => ?_, Nat.zero_le _, fun b xs e => by
    show (if b = P then none else H b) = _
    rw [if_neg (fun z => by rw [z, hP] at e; cases e)]; exact e⟩, ⟨ns, rfl, rfl, hl, rfl⟩, fun r ow v F' H' e _ _ o _ => ?_, fun _ _ _ _ _ z => z.elim⟩
  · by_cases hb : b = P
    · simp [hb] at e
    · simpa [hb] using e
  · match k, e with
    | 0, e =>
      cases e
      cases e2
      exact ⟨rfl, #[], hP, True.intro, fun pos cv hcv => by simp [codeAmong] at hcv⟩
    | k + 1, e => simp at e
  · simp at hp
    subst hp
    simp
  · match i, e with
    | 0, e => cases e; exact ⟨a, rfl, lk'⟩
    | i + 1, e => simp at e
  · subst e
    have o : Rep F' v (.bool true) := o
    cases o
    rfl
theorem law_walkT {l : PySem.W.OpenLaw} {gd : Bool} {n k : Nat} {qn : Str} {q : Program} {loose : List Str} {XP : (Str → Option Value) → Heap → Prop} {YP : World → Heap → Prop} {d : DefRec} {K : Params → PySem.W.Frag} {x : Str}
    (hn : l.most = some n) (hn2 : n ≤ sizeLine) (hdf : d.params.defaults = []) (room : Room k callerA) (hY : ∀ (w : World) (h : Heap), YP w h → (K w.params).In h) (hr : (recsOf q).find? (fun e => e.name == d.name) = some d)
    (F : ∀ (w : World) (mg : Str → Option Value) (fa : Addr) (h : Heap), (K w.params).In h → h.Ns mainGlobals mg → mg d.name = some (.ref fa) →
      ∃ (fd : FuncData) (c P : Addr), PySem.W.tabIn (K w.params) d.name = some (c, P) ∧ (K w.params).lookup P = none ∧ (∀ (s : Shared) (u : Value), BindsTo s fd ⟨[u], []⟩ [(x, u)]) ∧
        ∀ base : Heap, (K w.params).In base → base.Ns mainGlobals mg → LamX.TabB base mg c P → FnG l.prog w (K w.params) mg base gd k fa fd [x] (spOf 1 (ctLawT (K w.params) n P qn))) :
    PySem.W.WalkO q loose XP YP l.row.toRowW d [] (fun f vs => PySem.call f vs) := by
  refine Att.attach_call hn hdf fun w s0 s1 mg mb fa o pm cd doc a vs ns G Y _ _ _ named scr isI len gen0 => ?_
  have inK := hY w _ Y
  obtain ⟨fd, c, P, ht, hk, bind, Gd⟩ := F w mg fa _ inK G.T.g named
  obtain ⟨h1, h2⟩ := PySem.W.tab_of G.T inK hr ht
  exact law_run (tabs := [(c, P)]) inK G.T.g G.T.b G.T.builtins G.T.nolimit gen0 (fun p hp => by simp at hp; subst hp; exact h2) (fun p hp => by simp at hp; subst hp; exact hk) (fun p hp => by simp at hp; subst hp; exact h1) G.T.bmain scr isI (Nat.le_trans len hn2) room
    (fun base h1 h2 ht => Gd base h1 h2 (ht (c, P) (by simp))) bind fun H fr lk => law_specT fr lk len
end DL
namespace DL
open PySem PySem.Spec PyProof.Rows L2
section
variable {prog : Program} {w : World} {A : Around} {E : Value → Shared → Prop} {s : Shared}
open PySem.W in
theorem sorted_tupR {β : Type} {vs : List Value} {bs : List β} {enc : β → PyData} {R : Value → β → Prop} {l : Addr} {b : Bool} {Q : Value → Shared → Prop} (hl : IsTup s.heap l vs.toArray) (e : EachIs R vs bs)
    (er : EachIs (fun v b => ∃ as, Reads s.heap v (enc b) as) vs bs) (hal : AllAlike (bs.map enc)) (hk : Sortable (bs.map enc)) (hL : bs.length ≤ sizeLine)
    (hu : ∀ b, b ∈ bs → A.units + 2 + (enc b).depth < cLine)
    (h : ∀ out, out.length = bs.length → EachIs R out (bs.mergeSort (dataLe b enc)) → Q (.ref (s.heap.objs.size + 1)) { s with heap := sortedAll s.heap vs (List.toArray out) }) :
    wpAny (model prog w) A (call (.builtin "sorted") [.ref l] [(Str.ofString "reverse", .bool b)]) Q E s := by
  have hz : vs.length ≤ sizeLine := by rw [e.length]; exact hL
  have er1 : EachIs (fun v b => ∃ as, Reads (sortingHeap (copyHeap s.heap vs) (s.heap.objs.size + 1) vs) v (enc b) as) vs bs :=
    er.mono fun _ _ ⟨as, r⟩ => ⟨as, PyProof.Rows.Reads.keeps (fun _ _ => sorting_copy_old) r⟩
  have S := SortsAt.data (prog := prog) (w := w) (A := A.in1.in1) (s := { s with heap := sortingHeap (copyHeap s.heap vs) (s.heap.objs.size + 1) vs })
    (each_map (R := fun v d => ∃ as, Reads (sortingHeap (copyHeap s.heap vs) (s.heap.objs.size + 1) vs) v d as) enc er1) hal hk (bound_map hu)
  refine call_function_entry_kw kind_sorted plain_sorted entry_sorted (args_sorted_rev _ _) ?_
  unfold Builtin.«sorted»
  refine wpAny_bind (m := checkCount "sorted" 1 1 _) (wpAny_pure ?_)
  refine wpAny_bind (collect_tupD hl hz ?_)
  refine wpAny_bind (wpAny_newList ?_ hz)
  have hsz : ((s.heap.push (seqObj "list" #[] 0)).update s.heap.objs.size (Obj.mapSeq (· ++ vs.toArray))).objs.size = s.heap.objs.size + 1 := by
    rw [Heap.size_update, size_push']
  show wpAny _ _ _ _ _ { s with heap := copyHeap s.heap vs }
  rw [hsz]
  refine wpAny_bind (wpAny_holding (wpAny_call_entry_kw slot_list_sort ⟨_, copyHeap_at s.heap vs, rfl⟩ entry_list_sort ?body (args_list_sort_rev _ _)))
  case body =>
    show wpAny (model prog w) A.in1.in1 (Builtin.«list.sort» ⟨[.ref (s.heap.objs.size + 1)], [(Str.ofString "reverse", .bool b)]⟩) _ _ _
    refine wpAny_mono (list_sort_rev_vals (s := { s with heap := copyHeap s.heap vs }) (P := fun f s' => f = .done (.ret .none) ∧ Q (.ref (s.heap.objs.size + 1)) s') (copyHeap_at s.heap vs) S hz ⟨rfl, ?_⟩) (fun f s' hf => ?_) fun _ _ x => x
    · exact h _ (by rw [sortVals_length b rfl]; exact e.length) (sortVals_data b e er1 hal)
    · obtain ⟨rfl, hq⟩ := hf
      exact ⟨_, rfl, wpAny_pure ⟨_, rfl, hq⟩⟩
end
abbrev sortR (b : Bool) (ds : List D) : List D := ds.mergeSort (PySem.W.dataLe b id)
section
variable {X : Cx}
def rSortR (b : Bool) : List V → List V → Hp → VK → Prop := fun xs zs H Q => zs = [.bl b] ∧ ∃ (p : Addr) (vs : List V) (ds : List D) (P : V → D → Prop), xs = [.ref p] ∧ (H p = some (.lst vs) ∨ H p = some (.tup vs)) ∧ RepAll H vs ds ∧ Paired P vs ds ∧
  PySem.W.AllAlike ds ∧ PySem.W.Sortable ds ∧ ds.length ≤ 100000 ∧ PyData.depthAll ds ≤ 150 ∧ ∀ q us, H q = none → Paired P us (sortR b ds) → Q (.ref q) (upd H q (.lst us))
theorem crk_sortR {b : Bool} (hu : X.A.units + 200 < cLine) : CallRK X (.builtin "sorted") [Str.ofString "reverse"] (rSortR b) := by
  intro pins s σ H xs zs us ws Q I r rz h
  obtain ⟨rfl, p, vs, ds, P, rfl, hp, hr, hP, h1, h2, h3, h4, q⟩ := h
  rw [Vals.ref1 r]
  obtain ⟨w1, rfl, e1⟩ := vals1 rz
  obtain rfl : w1 = Value.bool b := e1
  have fin : ∀ (its : List Value), Vals vs its → ∀ out, out.length = ds.length → PySem.W.EachIs (fun u d => ∃ v, RelV v u ∧ P v d) out (ds.mergeSort (PySem.W.dataLe b id)) →
      EP X pins σ Q (.ref (s.heap.objs.size + 1)) { s with heap := PyProof.Rows.sortedAll s.heap its (List.toArray out) } := fun its rv out ho eo => by
    obtain ⟨ws, rw', hw⟩ := each_back eo
    obtain ⟨ep, he⟩ := PyProof.Rows.sortedAll_at s.heap its (List.toArray out)
    have hl : ws.length ≤ sizeLine := by rw [rw'.length, ho, sizeLine_eq]; omega
    exact ⟨.ref _, upd H (s.heap.objs.size + 1) (.lst ws), I.laid (t' := s.toks) (fun _ _ => PyProof.Rows.sortedAll_old) (Nat.le_succ _) ⟨hl, out, ep, rw', he⟩, rfl, q _ ws (I.hok.fresh (Nat.le_succ _)) hw⟩
  have hal : PySem.W.AllAlike (ds.map id) := by rw [List.map_id]; exact h1
  have hk : PySem.W.Sortable (ds.map id) := by rw [List.map_id]; exact h2
  have hL : ds.length ≤ sizeLine := by rw [sizeLine_eq]; omega
  have hd : ∀ b, b ∈ ds → X.A.units + 2 + (id b : D).depth < cLine := fun b hb => by
    have := depth_le_all hb
    show X.A.units + 2 + b.depth < cLine
    omega
  rcases hp with hp | hp
  · obtain ⟨_, its, n, rv, e⟩ := I.hok _ _ hp
    exact PySem.W.sorted_rev_data (enc := id) (R := fun u d => ∃ v, RelV v u ∧ P v d) ⟨_, e, rfl, n, rfl⟩ (each_of rv hP) (each_reads I rv hr) hal hk hL hd (fin its rv)
  · obtain ⟨_, its, rv, e⟩ := I.hok _ _ hp
    exact sorted_tupR (enc := id) (R := fun u d => ∃ v, RelV v u ∧ P v d) e (each_of rv hP) (each_reads I rv hr) hal hk hL hd (fin its rv)
end
section
variable {X : Cx} {E : XK} {pos p : Pos} {ea : Expr} {ta : TE} {wa : WE}
def wSortR (b : Bool) (we : WE) : WE := fun a K B => we a (fun x a1 => so (seD (vw a1 x)) fun ds => side (CanSort ds) (K (.nl (sortR b ds)) a1)) B
theorem de_sortR {b : Bool} {j : Const → Prop} {kp p2 : Pos} {jk : Nat} (hu : X.A.units + 200 < cLine) (h : DE X E ea ta wa) (hg : Gl X "sorted") (hm : X.mg "sorted" = none)
    (he : backTo pos (starEach (ea :: []) X.env) = (false, eval ea X.env) :: backTo pos (starEach [] X.env) := by rfl) (hpl : (backTo pos (starEach (ea :: []) X.env)).any (·.1) = false := by rfl)
    (hs : starEach (ea :: []) X.env = (false, eval ea X.env) :: starEach [] X.env := by rfl)
    (hall : (backToKw pos (keywordEach [⟨some "reverse", .Constant (.bool b) jk p2, kp⟩] X.env)).all (·.1.isSome) = true := by rfl) (hnone : (backToKw pos (keywordEach [⟨some "reverse", .Constant (.bool b) jk p2, kp⟩] X.env)).any (·.1.isNone) = false := by rfl)
    (hks : (backToKw pos (keywordEach [⟨some "reverse", .Constant (.bool b) jk p2, kp⟩] X.env)).filterMap (·.1) = [Str.ofString "reverse"] := by rfl) :
    DE X E (.Call (.Name "sorted" p) [ea] [⟨some "reverse", .Constant (.bool b) jk p2, kp⟩] pos) (tCKw (rSortR b) (tCons ta tNil) (tCons (tC (.bl b)) tNil)) (wSortR b wa) := by
  refine ⟨pe_callBK (crk_sortR hu) hg hm (by decide +kernel) (pa_cons h.pe pa_nil hs) (pk_cons pe_bl pk_nil) (by decide) (by decide) he hpl hall hnone hks, ?_⟩
  intro a K B k σ F H fps x Q q bb
  refine h.so a _ B k σ F H fps x _ (fun r1 a1 v1 F1 H1 k1 n1 x1 l1 o1 w1 => ?_) bb
  obtain ⟨ds, e1, ⟨c1, c2, c3, c4⟩, k1⟩ := so_e k1
  obtain ⟨d, e0, i0⟩ : ∃ d, vw a1 r1 = some d ∧ itemsD d = some ds := by
    cases hv : vw a1 r1 with
    | none => rw [hv] at e1; cases e1
    | some d =>
      rw [hv] at e1
      cases d with
      | list _ => exact ⟨_, rfl, e1⟩
      | tuple _ => exact ⟨_, rfl, e1⟩
      | _ => cases e1
  obtain ⟨p, us, rfl, hp, r⟩ := vw_items x1 o1 e0 i0
  refine ⟨rfl, p, us, ds, fun v d => Rep F1 v d, rfl, hp, r.mono x1.sub, repAll_paired r, c1, c2, c3, c4, fun l ws hl hw => ?_⟩
  exact q _ _ _ _ _ k1 n1 (x1.newH hl) (l1.trans (Le.newH hl)) ⟨l, ws, rfl, upd_same, x1.sub.gone hl, x1.fresh hl, paired_repAll hw⟩ fun p' e' => by cases e'; exact l1.ex _ hl
end
theorem intsO_e {o : Option D} {ns : List Int} (h : intsO (lsO o) = some ns) : o = some (.list (ns.map PyData.int)) := by
  unfold intsO at h
  split at h
  · rename_i ds hd
    have key : ∀ {ds : List D} {ns : List Int}, intsD ds = some ns → ds = ns.map PyData.int := by
      intro ds
      induction ds with
      | nil => intro ns h; cases h; rfl
      | cons d ds ih =>
        intro ns h
        cases d with
        | int i =>
          have h' : (intsD ds).map (i :: ·) = some ns := h
          cases e : intsD ds with
          | none => rw [e] at h'; cases h'
          | some ms => rw [e] at h'; cases h'; rw [ih e]; rfl
        | _ => cases h
    have := key h
    subst this
    match o, hd with
    | some (.list b), hd => cases hd; rfl
  · cases h
def blsD : List D → Option (List Bool)
  | [] => some []
  | .bool b :: ds => (blsD ds).map (b :: ·)
  | _ :: _ => none
theorem blsD_e : ∀ {ds : List D} {bs : List Bool}, blsD ds = some bs → ds = bs.map PyData.bool
  | [], _, h => by cases h; rfl
  | d :: ds, bs, h => by
    cases d with
    | bool b =>
      have h' : (blsD ds).map (b :: ·) = some bs := h
      cases e : blsD ds with
      | none => rw [e] at h'; cases h'
      | some cs => rw [e] at h'; cases h'; rw [blsD_e e]; rfl
    | _ => cases h
theorem blsD_m : ∀ bs : List Bool, blsD (bs.map PyData.bool) = some bs
  | [] => rfl
  | b :: bs => by
    show (blsD (bs.map PyData.bool)).map (b :: ·) = _
    rw [blsD_m bs]; rfl
theorem RepAll.of_bls {F : Hp} : ∀ {bs : List Bool} {vs : List V}, RepAll F vs (bs.map PyData.bool) → vs = bs.map V.bl
  | [], _, .nil => rfl
  | b :: bs, _, .cons h r => by cases h; rw [RepAll.of_bls r]; rfl
section
variable {X : Cx}
theorem vw_ints {a : AS} {σ : Sgm} {F H : Hp} {fps : List (List Addr)} (ok : AOk a σ F H fps) {r : Ev} {v : V} {ns : List Int} (h : ValOk F H fps r v) (e : vw a r = some (.list (ns.map PyData.int))) : ∃ p, v = .ref p ∧ H p = some (.lst (ns.map V.int)) := by
  obtain ⟨p, vs, rfl, hp, r⟩ := vw_list ok h e
  rw [RepAll.of_ints r] at hp
  exact ⟨p, rfl, hp⟩
def gMaxL : GC := fun a xs K => ∃ x ns m, xs = [x] ∧ intsO (lsO (vw a x)) = some ns ∧ 0 < ns.length ∧ m ∈ ns ∧ (∀ y ∈ ns, y ≤ m) ∧ K (.d (.int m))
def gMinL : GC := fun a xs K => ∃ x ns m, xs = [x] ∧ intsO (lsO (vw a x)) = some ns ∧ 0 < ns.length ∧ m ∈ ns ∧ (∀ y ∈ ns, m ≤ y) ∧ K (.d (.int m))
def gSumL : GC := fun a xs K => ∃ x ns, xs = [x] ∧ intsO (lsO (vw a x)) = some ns ∧ K (.d (.int ns.sum))
def gAllL : GC := fun a xs K => ∃ x ds bs, xs = [x] ∧ vw a x = some (.list ds) ∧ blsD ds = some bs ∧ K (.d (.bool (bs.all id)))
def gAnyL : GC := fun a xs K => ∃ x ds bs, xs = [x] ∧ vw a x = some (.list ds) ∧ blsD ds = some bs ∧ K (.d (.bool (bs.any id)))
def gReprI : GC := fun a xs K => ∃ x i, xs = [x] ∧ vw a x = some (.int i) ∧ i.natAbs.log2 < 1920 ∧ K (.d (.str (toString i)))
theorem max_one {ns : List Int} {m m' : Int} (h1 : m ∈ ns) (h2 : ∀ y ∈ ns, y ≤ m) (h3 : m' ∈ ns) (h4 : ∀ y ∈ ns, y ≤ m') : m = m' := Int.le_antisymm (h4 m h1) (h2 m' h3)
theorem d_maxL (hc : X.calm = true) : CallR X (.builtin "max") (rMax X.K) ∧ RCS (rMax X.K) gMaxL := ⟨cr_max hc, by
  intro a σ F H fps xs vs ok hv Kz k Q q
  obtain ⟨x, ns, m, rfl, e, h0, h1, h2, k⟩ := k
  obtain ⟨v, rfl, h⟩ := vals_one hv
  obtain ⟨p, rfl, hp⟩ := vw_ints ok h (intsO_e e)
  refine ⟨p, ns, rfl, SqL.of hp, h0, fun m' h3 h4 => ?_⟩
  rw [max_one h3 h4 h1 h2]
  exact q _ _ F H k ok (Le.refl _ _ _) (.int _) trivial⟩
theorem d_minL (hc : X.calm = true) : CallR X (.builtin "min") (rMin X.K) ∧ RCS (rMin X.K) gMinL := ⟨cr_min hc, by
  intro a σ F H fps xs vs ok hv Kz k Q q
  obtain ⟨x, ns, m, rfl, e, h0, h1, h2, k⟩ := k
  obtain ⟨v, rfl, h⟩ := vals_one hv
  obtain ⟨p, rfl, hp⟩ := vw_ints ok h (intsO_e e)
  refine ⟨p, ns, rfl, SqL.of hp, h0, fun m' h3 h4 => ?_⟩
  rw [show m' = m from Int.le_antisymm (h4 m h1) (h2 m' h3)]
  exact q _ _ F H k ok (Le.refl _ _ _) (.int _) trivial⟩
theorem d_sumL (hc : X.calm = true) : CallR X (.builtin "sum") (rSum X.K) ∧ RCS (rSum X.K) gSumL := ⟨cr_sum hc, by
  intro a σ F H fps xs vs ok hv Kz k Q q
  obtain ⟨x, ns, rfl, e, k⟩ := k
  obtain ⟨v, rfl, h⟩ := vals_one hv
  obtain ⟨p, rfl, hp⟩ := vw_ints ok h (intsO_e e)
  exact ⟨p, ns, rfl, SqL.of hp, q _ _ F H k ok (Le.refl _ _ _) (.int _) trivial⟩⟩
theorem d_allL (hc : X.calm = true) : CallR X (.builtin "all") (rAll X.K) ∧ RCS (rAll X.K) gAllL := ⟨cr_all hc, by
  intro a σ F H fps xs vs ok hv Kz k Q q
  obtain ⟨x, ds, bs, rfl, e, e2, k⟩ := k
  obtain ⟨v, rfl, h⟩ := vals_one hv
  obtain ⟨p, us, rfl, hp, r⟩ := vw_list ok h e
  rw [blsD_e e2] at r
  rw [RepAll.of_bls r] at hp
  exact ⟨p, bs, rfl, SqL.of hp, q _ _ F H k ok (Le.refl _ _ _) (.bl _) trivial⟩⟩
theorem d_anyL (hc : X.calm = true) : CallR X (.builtin "any") (rAny X.K) ∧ RCS (rAny X.K) gAnyL := ⟨cr_any hc, by
  intro a σ F H fps xs vs ok hv Kz k Q q
  obtain ⟨x, ds, bs, rfl, e, e2, k⟩ := k
  obtain ⟨v, rfl, h⟩ := vals_one hv
  obtain ⟨p, us, rfl, hp, r⟩ := vw_list ok h e
  rw [blsD_e e2] at r
  rw [RepAll.of_bls r] at hp
  exact ⟨p, bs, rfl, SqL.of hp, q _ _ F H k ok (Le.refl _ _ _) (.bl _) trivial⟩⟩
theorem d_reprI : CallR X (.builtin "repr") (fun xs H Q => ∃ i, xs = [.int i] ∧ i.natAbs.log2 < 1920 ∧ Q (.str (toString i)) H) ∧ RCS (fun xs H Q => ∃ i, xs = [.int i] ∧ i.natAbs.log2 < 1920 ∧ Q (.str (toString i)) H) gReprI := ⟨SkE.call_repr_int, by
  intro a σ F H fps xs vs ok hv Kz k Q q
  obtain ⟨x, i, rfl, e, h1, k⟩ := k
  obtain ⟨v, rfl, h⟩ := vals_one hv
  exact ⟨i, by rw [vw_int ok h e], h1, q _ _ F H k ok (Le.refl _ _ _) (.str _) trivial⟩⟩
end
theorem u_maxL {a : AS} {x : Ev} {K : Ev → Prop} : gMaxL a [x] K = so (intsO (lsO (vw a x))) fun ns => ∃ m, m ∈ ns ∧ (∀ y ∈ ns, y ≤ m) ∧ K (.d (.int m)) := by
  refine propext ⟨fun ⟨x', ns, m, e, e1, h0, h1, h2, k⟩ => ?_, fun k => ?_⟩
  · cases e; rw [e1]; exact ⟨m, h1, h2, k⟩
  · obtain ⟨ns, e1, m, h1, h2, k⟩ := so_e k
    exact ⟨x, ns, m, rfl, e1, List.length_pos_of_mem h1, h1, h2, k⟩
theorem u_minL {a : AS} {x : Ev} {K : Ev → Prop} : gMinL a [x] K = so (intsO (lsO (vw a x))) fun ns => ∃ m, m ∈ ns ∧ (∀ y ∈ ns, m ≤ y) ∧ K (.d (.int m)) := by
  refine propext ⟨fun ⟨x', ns, m, e, e1, h0, h1, h2, k⟩ => ?_, fun k => ?_⟩
  · cases e; rw [e1]; exact ⟨m, h1, h2, k⟩
  · obtain ⟨ns, e1, m, h1, h2, k⟩ := so_e k
    exact ⟨x, ns, m, rfl, e1, List.length_pos_of_mem h1, h1, h2, k⟩
theorem u_sumL {a : AS} {x : Ev} {K : Ev → Prop} : gSumL a [x] K = so (intsO (lsO (vw a x))) fun ns => K (.d (.int ns.sum)) := by
  refine propext ⟨fun ⟨x', ns, e, e1, k⟩ => ?_, fun k => ?_⟩
  · cases e; rw [e1]; exact k
  · obtain ⟨ns, e1, k⟩ := so_e k
    exact ⟨x, ns, rfl, e1, k⟩
theorem u_allL {a : AS} {x : Ev} {K : Ev → Prop} : gAllL a [x] K = so (lsO (vw a x)) fun ds => so (blsD ds) fun bs => K (.d (.bool (bs.all id))) := by
  refine propext ⟨fun ⟨x', ds, bs, e, e1, e2, k⟩ => ?_, fun k => ?_⟩
  · cases e; rw [e1, lsO_l, so_s, e2]; exact k
  · rw [← so_ls] at k
    obtain ⟨ds, e1, k⟩ := k
    obtain ⟨bs, e2, k⟩ := so_e k
    exact ⟨x, ds, bs, rfl, e1, e2, k⟩
theorem u_anyL {a : AS} {x : Ev} {K : Ev → Prop} : gAnyL a [x] K = so (lsO (vw a x)) fun ds => so (blsD ds) fun bs => K (.d (.bool (bs.any id))) := by
  refine propext ⟨fun ⟨x', ds, bs, e, e1, e2, k⟩ => ?_, fun k => ?_⟩
  · cases e; rw [e1, lsO_l, so_s, e2]; exact k
  · rw [← so_ls] at k
    obtain ⟨ds, e1, k⟩ := k
    obtain ⟨bs, e2, k⟩ := so_e k
    exact ⟨x, ds, bs, rfl, e1, e2, k⟩
theorem u_reprI {a : AS} {x : Ev} {K : Ev → Prop} : gReprI a [x] K = so (inD (vw a x)) fun i => side (i.natAbs.log2 < 1920) (K (.d (.str (toString i)))) := by
  refine propext ⟨fun ⟨x', i, e, e1, h, k⟩ => ?_, fun k => ?_⟩
  · cases e; rw [e1]; exact ⟨h, k⟩
  · obtain ⟨i, e1, h, k⟩ := so_e k
    refine ⟨x, i, rfl, ?_, h, k⟩
    match vw a x, e1 with
    | some (.int j), e1 => cases e1; rfl
theorem u_isEr {a : AS} {x : Ev} {C : Addr} {K : Ev → Prop} : gIsEr C a [x, .v (.ref C)] K = so (errA x) fun D => side (D = C) (K (.d (.bool true))) := by
  refine propext ⟨fun ⟨x', y, D, e, e1, e2, h, k⟩ => ?_, fun k => ?_⟩
  · cases e; rw [e2]; exact ⟨h, k⟩
  · obtain ⟨D, e2, h, k⟩ := so_e k
    exact ⟨x, _, D, rfl, rfl, e2, h, k⟩
def inS : Option Sl → Option Int
  | some (.d (.int n)) => some n
  | _ => none
theorem inS_i (n : Int) : inS (some (.d (.int n))) = some n := rfl
def wAugI (i : Nat) (f : Int → Int → Int) (we : WE) : WS := fun a A => so (inS (a.sl[i]?)) fun n => we a (fun r a1 => so (inD (vw a1 r)) fun m => A.nx { a1 with sl := a1.sl.set i (.d (.int (f n m))) }) A.xb
theorem ds_augI {X : Cx} {E : XK} {i : Nat} {x : Str} {e : Expr} {te : TE} {we : WE} {op : Operator} {f : Int → Int → Int} {pos' pos : Pos} (ho : PIp X op (ipI f)) (hN : X.N.Nodup) (hi : X.N[i]? = some x) (hx : Loc X.env.scope x) (h : DE X E e te we)
    (hf : X.fn x = true ∨ X.env.scope.names.lookup x = some .local := by first | exact .inl rfl | exact .inr rfl | assumption) : DS X E (.AugAssign (.Name x pos') op e pos) (tAug i te (ipI f)) (wAugI i f we) := by
  refine ⟨ps_aug hN hi hx h.pe ho hf, ?_⟩
  intro a A k σ F H fps x D en
  obtain ⟨n, e1, k⟩ := so_e k
  have hsl : a.sl[i]? = some (.d (.int n)) := by
    match a.sl[i]?, e1 with
    | some (.d (.int j)), e1 => cases e1; rfl
  obtain ⟨v, hv, hr⟩ := x.sl i _ hsl
  have hσ : σ[i]? = some (some v) := by
    cases e2 : σ[i]? with
    | none => rw [e2] at hv; cases hv
    | some o => rw [e2] at hv; exact congrArg some hv
  refine ⟨v, hσ, h.so a _ _ k σ F H fps x _ (fun r a1 v1 F1 H1 k1 n1 x1 l1 o1 w1 => ?_) (ends_b en)⟩
  obtain ⟨m, e3, k1⟩ := so_e k1
  have e4 : vw a1 r = some (.int m) := by
    match vw a1 r, e3 with
    | some (.int j), e3 => cases e3; rfl
  cases hr
  rw [vw_int x1 o1 e4]
  exact ⟨n, m, rfl, rfl, en.nx _ _ F1 H1 fps k1 (x1.setSlot ⟨_, rfl, .int _⟩) l1 rfl n1⟩
theorem u_augI {i : Nat} {f : Int → Int → Int} {we : WE} {a : AS} {A : AE} : wAugI i f we a A = so (inS (a.sl[i]?)) fun n => we a (fun r a1 => so (inD (vw a1 r)) fun m => A.nx { a1 with sl := a1.sl.set i (.d (.int (f n m))) }) A.xb := rfl
def clA (K : PySem.W.Frag) (x : Str) : Addr := match PySem.W.nsIn K mainGlobals x with
  | some (some (.ref a)) => a
  | _ => 0
theorem clA_of {K : PySem.W.Frag} {x : Str} {C : Addr} (h : PySem.W.nsIn K mainGlobals x = some (some (.ref C))) : clA K x = C := by unfold clA; rw [h]
end DL
namespace DL
open PySem PySem.Spec PyProof.Rows L2
theorem keep_er {x : XD} : keep (.er x) = some (.er x) := rfl
theorem out_er {a : AS} {x : XD} : outEv a (.er x) = some (.er x) := rfl
theorem ts_er {x : XD} {rs : List Ev} : toSls (.er x :: rs) = (toSls rs).map (.er x :: ·) := by
  show (match keep (.er x), toSls rs with | some d, some ds => some (d :: ds) | _, _ => none) = _
  rw [keep_er]; cases toSls rs <;> rfl
theorem stOf_1 {P : Addr} {q : Str} {t : Nat} {r : List Own} : stOf (.tb P q :: .st t :: r) 1 = some t := rfl
def leB (b : Bool) (i j : Int) : Bool := if b then decide (j ≤ i) else decide (i ≤ j)
theorem toks_i (i : Int) : PySem.W.keyToks (.int i) = [.inl i] := rfl
theorem dataLe_i (b : Bool) (i j : Int) : PySem.W.dataLe b id (.int i) (.int j) = leB b i j := by
  cases b with
  | false =>
    show (!PyProof.Rows.lexLt PyProof.Rows.itemOrd (PySem.W.keyToks (.int j)) (PySem.W.keyToks (.int i))) = _
    rw [toks_i, toks_i, lexc, lexn]
    unfold leB
    by_cases h : j < i
    · have : ¬ i ≤ j := by omega
      simp [h, this]
    · have : i ≤ j := by omega
      simp [h, this]
  | true =>
    show (!PyProof.Rows.lexLt PyProof.Rows.itemOrd (PySem.W.keyToks (.int i)) (PySem.W.keyToks (.int j))) = _
    rw [toks_i, toks_i, lexc, lexn]
    unfold leB
    by_cases h : i < j
    · have : ¬ j ≤ i := by omega
      simp [h, this]
    · have : j ≤ i := by omega
      simp [h, this]
def sortI (b : Bool) (ns : List Int) : List Int := ns.mergeSort (leB b)
theorem leB_trans (b : Bool) (x y z : Int) : leB b x y = true → leB b y z = true → leB b x z = true := by
  unfold leB; cases b <;> simp <;> omega
theorem leB_total (b : Bool) (x y : Int) : (leB b x y || leB b y x) = true := by
  unfold leB; cases b <;> simp <;> omega
theorem sortI_perm (b : Bool) (ns : List Int) : (sortI b ns).Perm ns := List.mergeSort_perm _ _
theorem sortI_pw (b : Bool) (ns : List Int) : (sortI b ns).Pairwise fun x y => leB b x y = true := List.pairwise_mergeSort (leB_trans b) (leB_total b) ns
theorem sortI_len (b : Bool) (ns : List Int) : (sortI b ns).length = ns.length := (sortI_perm b ns).length_eq
theorem sortR_i (b : Bool) (ns : List Int) : sortR b (ns.map PyData.int) = (sortI b ns).map PyData.int :=
  (List.map_mergeSort fun x _ y _ => (dataLe_i b x y).symm).symm
theorem sortD_i (ns : List Int) : sortD (ns.map PyData.int) = (sortI false ns).map PyData.int := sortR_i false ns
theorem canSort_ints {ns : List Int} (h : ns.length ≤ 100000) : CanSort (ns.map PyData.int) := by
  refine ⟨fun d hd d' hd' => ?_, .inr fun d hd => ?_, by simpa using h, Nat.le_trans (depth_ints ns) (by decide)⟩
  · obtain ⟨p, _, rfl⟩ := List.mem_map.mp hd
    obtain ⟨q, _, rfl⟩ := List.mem_map.mp hd'
    rfl
  · obtain ⟨p, _, rfl⟩ := List.mem_map.mp hd
    exact ⟨by simp, by simp⟩
end DL
namespace DL
theorem seq_gen (J : AS → Prop) {w1 w2 : WS} {a : AS} {A : AE} (h2 : ∀ a', J a' → w2 a' A) (h1 : ∀ Z : AS → Prop, (∀ a', J a' → Z a') → w1 a { A with nx := Z }) : wSeq w1 w2 a A := h1 _ h2
theorem rep_one (n : Nat) (x : D) : repD ((n : Int)) [x] = List.replicate n x := by
  unfold repD
  simp
end DL
namespace DL
open PySem PySem.Spec PyProof.Rows L2
theorem tab_mk {K : PySem.W.Frag} {x : Str} {f c P : Addr} {oc oC : Value} {od odC : Option Addr} {sl slC : Array (Option Value)} {fd : FuncData} {vs : Array Value} (a : PySem.W.nsIn K mainGlobals x = some (some (.ref f))) (l : K.lookup f = some ⟨oc, od, .func fd, sl⟩)
    (hc : fd.code = .ref c) (lc : K.lookup c = some ⟨oC, odC, .fields vs, slC⟩) (h : vs[11]? = some (.ref P)) : PySem.W.tabIn K x = some (c, P) := by
  unfold PySem.W.tabIn
  rw [a]
  simp only [l, hc, lc, h]
end DL
namespace DL
theorem br_two {c : Bool} {P Q : Prop} (hQ : Q) (h : c = true → Q → P) : br c P Q := ⟨fun e => h e hQ, fun _ => hQ⟩
end DL
namespace DL
open PySem PySem.Spec PyProof.Rows L2 LamX
abbrev LT := Lm × (XK → TE)
inductive DLams (X : Cx) (k : Nat) : List Expr → List LT → List WE → Prop
  | nil : DLams X k [] [] []
  | cons {params : Arguments} {body : Expr} {scope : Scope} {lpos : Pos} {es : List Expr} {xs : List LT} {ws : List WE} {tb : XK → TE} {wb : WE} (sc : LamS X.env.scope scope) (df : defaultsOf params X.env = ([], []))
      (bn : ∀ (q : Str) (cl : List (Str × Addr)) (pm cv ctv : Value), bindArgs (PySem.W.kla_fn "<lambda>" q params body scope cl pm cv ctv) ⟨[], []⟩ = pure [])
      (hb : ∀ (A : Around) (outer : List Env) (s1 : Shared) (H1 : Hp) (E' : XK) (f c' : Addr), Room k (A.deeper (lamEnv X scope s1.heap.objs.size f c')) → DE (lamCx X A outer s1 H1 E' scope f c') E' body (tb E') wb)
      (hs : starEach (.Lambda params body scope lpos :: es) X.env = (false, eval (.Lambda params body scope lpos) X.env) :: starEach es X.env) (r : DLams X k es xs ws) : DLams X k (.Lambda params body scope lpos :: es) ((⟨params, body, scope⟩, tb) :: xs) (wb :: ws)
def tLams (X : Cx) (P : Addr) : List LT → TA
  | [] => tNil
  | x :: xs => tCons (tLm X P x.1) (tLams X P xs)
section
variable {X : Cx} {k : Nat} {P : Addr}
theorem DLams.len1 {es : List Expr} {xs : List LT} {ws : List WE} (D : DLams X k es xs ws) : xs.length = ws.length := by
  induction D with
  | nil => rfl
  | cons _ _ _ _ _ _ ih => simp [ih]
theorem pa_lams {es : List Expr} {xs : List LT} {ws : List WE} (LA : LamAt X P) (D : DLams X k es xs ws) : PA X es (tLams X P xs) := by
  induction D with
  | nil => exact pa_nil
  | @cons params body scope lpos es xs ws tb wb sc df bn hb hs r ih => exact pa_cons (pe_lm (L := ⟨params, body, scope⟩) LA ⟨sc, df, bn⟩) ih hs
theorem DLams.at {es : List Expr} {xs : List LT} {ws : List WE} (D : DLams X k es xs ws) : ∀ {j : Nat} {wb : WE}, ws[j]? = some wb → ∃ x, xs[j]? = some x ∧ LmOk X x.1 ∧
    ∀ (A : Around) (outer : List Env) (s1 : Shared) (H1 : Hp) (E' : XK) (f c' : Addr), Room k (A.deeper (lamEnv X x.1.scope s1.heap.objs.size f c')) → DE (lamCx X A outer s1 H1 E' x.1.scope f c') E' x.1.body (x.2 E') wb := by
  induction D with
  | nil => intro j wb h; simp at h
  | cons sc df bn hb hs r ih =>
    intro j w h
    cases j with
    | zero => cases h; exact ⟨_, rfl, ⟨sc, df, bn⟩, hb⟩
    | succ j => exact ih (by simpa using h)
theorem DLams.of {es : List Expr} {xs : List LT} {ws : List WE} (D : DLams X k es xs ws) {L : Lm} {t : XK → TE} (h : (L, t) ∈ xs) : LmOk X L ∧
    ∀ (A : Around) (outer : List Env) (s1 : Shared) (H1 : Hp) (E' : XK) (f c' : Addr), Room k (A.deeper (lamEnv X L.scope s1.heap.objs.size f c')) → PE (lamCx X A outer s1 H1 E' L.scope f c') L.body (t E') := by
  induction D with
  | nil => cases h
  | cons sc df bn hb hs r ih =>
    rcases List.mem_cons.mp h with z | z
    · cases z
      exact ⟨⟨sc, df, bn⟩, fun A outer s1 H1 E' f c' r => (hb A outer s1 H1 E' f c' r).pe⟩
    · exact ih z
def IsLam (X : Cx) (F : Hp) (v : V) (x : LT) : Prop := ∃ f c', v = .ref f ∧ F f = some (LamO x.1 (lqX X) (cloX X x.1) c' f) ∧ F c' = some (CodeO c' (lqX X))
theorem IsLam.mono {F G : Hp} {v : V} {x : LT} (s : Sub F G) (h : IsLam X F v x) : IsLam X G v x := by
  obtain ⟨f, c', e, h1, h2⟩ := h
  exact ⟨f, c', e, s _ _ h1, s _ _ h2⟩
theorem snd_lm {L : Lm} {tb : XK → TE} {a : AS} {σ : Sgm} {F H : Hp} {fps : List (List Addr)} (x : AOk a σ F H fps) {ki : Nat} (hk : a.ow[ki]? = some (.tb P (lqX X))) {Q : VK}
    (q : ∀ v F' H', AOk a σ F' H' fps → Le F H fps.flatten F' H' fps.flatten → IsLam X F' v (L, tb) → Q v H') : tLm X P L σ H Q := by
  obtain ⟨fp, hfp⟩ : ∃ fp, fps[ki]? = some fp := by
    have := (List.getElem?_eq_some_iff.mp hk).1
    rw [← x.len] at this
    exact ⟨_, List.getElem?_eq_getElem this⟩
  obtain ⟨rfl, ps, hP, hc⟩ := x.own ki fp _ hfp hk
  refine ⟨ps, hP, hc.inH x.sub, fun f c' H1 cd nf => ?_⟩
  obtain ⟨F1, x1, l1, hco⟩ : ∃ F1, AOk a σ F1 H1 fps ∧ Le F H fps.flatten F1 H1 fps.flatten ∧ F1 c' = some (CodeO c' (lqX X)) := by
    cases cd with
    | hit h m =>
      obtain ⟨pos, hm⟩ := m
      obtain ⟨c, e, hF⟩ := hc.2 pos _ hm
      cases e
      exact ⟨F, x, Le.refl _ _ _, hF⟩
    | new more n t kk =>
      have cf : CodesF (upd F c' (CodeO c' (lqX X))) (lqX X) more := ⟨t, fun pos cv e => by
        rcases kk pos cv e with z | z
        · obtain ⟨c, z1, z2⟩ := hc.2 pos cv z
          refine ⟨c, z1, ?_⟩
          rw [upd_ne (ne_of_none (x.sub _ _ z2) n)]; exact z2
        · exact ⟨c', z, upd_same⟩⟩
      obtain ⟨y1, y2⟩ := x.table hfp hk n ⟨_, hP⟩ cf
      exact ⟨_, y1, y2, upd_same⟩
  have nF : F1 f = none := x1.sub.gone nf
  exact q _ _ _ (x1.newF nf) (l1.trans (Le.newF x1.sub nf)) ⟨f, c', rfl, upd_same, by rw [upd_ne (ne_of_none hco nF)]; exact hco⟩
theorem snd_lams {ki : Nat} : ∀ {xs : List LT} {a : AS} {σ : Sgm} {F H : Hp} {fps : List (List Addr)}, AOk a σ F H fps → a.ow[ki]? = some (.tb P (lqX X)) → ∀ {Q : List V → Hp → Prop},
    (∀ vs F' H', AOk a σ F' H' fps → Le F H fps.flatten F' H' fps.flatten → Paired (fun v x => IsLam X F' v x) vs xs → Q vs H') → tLams X P xs σ H Q
  | [], a, σ, F, H, fps, x, hk, Q, q => q [] F H x (Le.refl _ _ _) .nil
  | y :: xs, a, σ, F, H, fps, x, hk, Q, q => by
    show tLm X P y.1 σ H fun v H1 => tLams X P xs σ H1 fun vs H2 => Q (v :: vs) H2
    refine snd_lm (tb := y.2) x hk fun v F1 H1 x1 l1 i1 => ?_
    refine snd_lams x1 hk fun vs F2 H2 x2 l2 i2 => ?_
    exact q _ F2 H2 x2 (l1.trans l2) (.cons (i1.mono l2.fr) i2)
end
def wForC (i : Nat) (K0 : PySem.W.Frag) (CS C : Addr) : List WE → WS
  | [] => fun a A => A.nx a
  | wb :: ws => fun a A => side (i < a.sl.length) (wb { a with sl := a.sl.set i .un } (fun _ _ => False) (fun x a1 => so (errA (.er x)) fun D => side (D = C) (side (PySem.W.exmOne K0 (.ref D) (.ref CS) = some true) (wForC i K0 CS C ws a1 A))))
def wForC0 (i k : Nat) (P : Addr) (q : Str) (K0 : PySem.W.Frag) (CS C : Addr) (ws : List WE) : WS := fun a A => side (a.ow[k]? = some (.tb P q) ∧ ws.length ≤ 1000) (wForC i K0 CS C ws a A)
theorem u_forCn {i : Nat} {K0 : PySem.W.Frag} {CS C : Addr} {a : AS} {A : AE} : wForC i K0 CS C [] a A = A.nx a := rfl
theorem u_forCc {i : Nat} {K0 : PySem.W.Frag} {CS C : Addr} {wb : WE} {ws : List WE} {a : AS} {A : AE} : wForC i K0 CS C (wb :: ws) a A = side (i < a.sl.length) (wb { a with sl := a.sl.set i .un } (fun _ _ => False) (fun x a1 => so (errA (.er x)) fun D => side (D = C) (side (PySem.W.exmOne K0 (.ref D) (.ref CS) = some true) (wForC i K0 CS C ws a1 A)))) := rfl
theorem e_forC0 {i : Nat} {P : Addr} {q : Str} {K0 : PySem.W.Frag} {CS C : Addr} {ws : List WE} {sl : List Sl} {ow : List Own} {n : Nat} {A : AE} : wForC0 i 0 P q K0 CS C ws ⟨sl, .tb P q :: ow, n⟩ A = side (ws.length ≤ 1000) (wForC i K0 CS C ws ⟨sl, .tb P q :: ow, n⟩ A) :=
  propext ⟨fun h => ⟨h.1.2, h.2⟩, fun h => ⟨⟨rfl, h.1⟩, h.2⟩⟩
theorem snd_forC {X : Cx} {E : XK} {kr i ki : Nat} {P CS C : Addr} {es : List Expr} {xs : List LT} {ws : List WE} {t1 : TS} (D : DLams X kr es xs ws) (room : Room (kr + 2) X.A) (ex : ExcC X.K C) :
    SndS E (tFor (iSeq X.K (tLst (tLams X P xs))) (gName i) (tIfS (tNot (tB (tCB (rIsEr X.K C) (tCons (tGive X (TTc X.K CS) (fun L t => (L, t) ∈ xs) (tVar i)) (tCons (tC (.ref C)) tNil))))) t1 tNext)) (wForC0 i ki P (lqX X) X.K CS C ws) := by
  intro a A ⟨⟨hk, hl⟩, hw⟩ σ F H fps x Z en
  have hxw := D.len1
  refine snd_lams (P := P) (X := X) x hk fun vs F1 H1 x1 l1 la => ?_
  have hvl : vs.length = xs.length := Paired.len la
  refine ⟨by rw [sizeLine_eq]; omega, fun p np => ⟨p, rfl, .inl ⟨⟨vs, upd_same⟩, ?_⟩⟩⟩
  have x2 : AOk a σ (upd F1 p (.lst vs)) (upd H1 p (.lst vs)) fps := x1.newF np
  have l2 := l1.trans (Le.newF (P := fps.flatten) (o := .lst vs) x1.sub np)
  have la2 : Paired (fun v x => IsLam X (upd F1 p (.lst vs)) v x) vs xs := Paired.mapP la fun _ _ z => z.mono (Sub.put (x1.sub.gone np))
  have hp : upd F1 p (.lst vs) p = some (.lst vs) := upd_same
  generalize upd F1 p (.lst vs) = F2 at x2 l2 la2 hp
  generalize upd H1 p (.lst vs) = H2 at x2 l2
  refine ⟨fun j m σ' H' => m = ws.length - j ∧ j ≤ ws.length ∧ ∃ a' F', wForC i X.K CS C (ws.drop j) a' A ∧ a'.n = a.n ∧ AOk a' σ' F' H' fps ∧ Le F2 H2 fps.flatten F' H' fps.flatten,
    ⟨ws.length, by simp, Nat.zero_le _, a, F2, by simpa using hw, rfl, x2, Le.refl _ _ _⟩, ?_⟩
  rintro j m σ' H' ⟨rfl, hj, a', F', hw', hn, x', l'⟩
  have hpH : H' p = some (.lst vs) := x'.sub _ _ (l'.fr _ _ hp)
  by_cases hlt : j < ws.length
  · have hjv : j < vs.length := by omega
    refine .inr ⟨⟨vs, vs[j], SqL.of hpH, by simp⟩, fun σ' H' => ∃ m', m' < ws.length - j ∧ m' = ws.length - (j + 1) ∧ j + 1 ≤ ws.length ∧ ∃ a' F', wForC i X.K CS C (ws.drop (j + 1)) a' A ∧ a'.n = a.n ∧ AOk a' σ' F' H' fps ∧ Le F2 H2 fps.flatten F' H' fps.flatten,
      fun σ' H' ⟨m', h1, h2⟩ => ⟨m', h1, h2⟩, fun v H'' y => ?_⟩
    obtain ⟨e, y⟩ := y
    subst e
    have hv := y vs (SqL.of hpH)
    obtain ⟨wb, hwb⟩ : ∃ wb, ws[j]? = some wb := ⟨ws[j], by simp [hlt]⟩
    obtain ⟨lt, hlt2, LO, hb⟩ := D.at hwb
    have il : IsLam X F2 v lt := by
      have key : ∀ {vs : List V} {xs : List LT}, Paired (fun v x => IsLam X F2 v x) vs xs → ∀ {j : Nat} {v : V} {x : LT}, vs[j]? = some v → xs[j]? = some x → IsLam X F2 v x := by
        intro vs xs h
        induction h with
        | nil => intro j v x h; simp at h
        | cons h1 _ ih =>
          intro j v x e1 e2
          cases j with
          | zero => cases e1; cases e2; exact h1
          | succ j => exact ih (by simpa using e1) (by simpa using e2)
      exact key la2 hv hlt2
    obtain ⟨f, c', rfl, hf, hc⟩ := il.mono l'.fr
    have hd : ws.drop j = wb :: ws.drop (j + 1) := by
      rw [List.drop_eq_getElem_cons hlt]
      congr 1
      rw [List.getElem?_eq_getElem hlt] at hwb
      exact Option.some.inj hwb
    rw [hd] at hw'
    obtain ⟨hi, hw'⟩ := hw'
    have x3 : AOk { a' with sl := a'.sl.set i .un } (σ'.set i (some (.ref f))) F' H'' fps := x'.setSlot trivial
    have hσ : (σ'.set i (some (V.ref f)))[i]? = some (some (.ref f)) := List.getElem?_set_self (by rw [x'.ln]; exact hi)
    have mem : (lt.1, lt.2) ∈ xs := List.mem_of_getElem? hlt2
    have so' : ∀ E', SndE E' (lt.2 E') wb := fun E' => (hb (X.A.deeper X.env) [] X.s_0 X.H_0 E' 0 0 ((room.deeper _).deeper _)).so
    show tIfS _ _ _ _ (σ'.set i (some (.ref f))) H''
    refine ⟨.ref f, hσ, f, c', lt.1, lt.2, mem, rfl, x3.sub _ _ hc, x3.sub _ _ hf, ?_⟩
    refine so' _ _ _ _ hw' _ F' H'' fps x3 _ (fun r a4 v4 F4 H4 k4 _ _ _ _ _ => k4.elim) fun y a4 d F4 H4 k4 n4 x4 l4 o4 => ?_
    obtain ⟨D', hD, rfl, he, k5⟩ := so_e k4
    have hy := errA_some hD
    cases hy
    refine ⟨he, fun p4 np4 => ?_⟩
    obtain ⟨y1, y2, y3⟩ := xd_caught x4 (l'.trans l4) rfl o4 np4
    have hd4 : d = none := o4
    subst hd4
    refine ⟨p4, D', .ref D', true, rfl, fun u r => r, upd_same, ex, by unfold PySem.W.kitOne; rw [if_pos (by simp)], true, rfl, ?_⟩
    show tNext _ _ _
    exact ⟨ws.length - (j + 1), by omega, rfl, by omega, a4, _, k5, n4.trans hn, y1, y2⟩
  · have e : j = ws.length := by omega
    subst e
    rw [List.drop_length] at hw'
    exact .inl ⟨⟨vs, SqL.of hpH, by omega⟩, en.nx a' σ' F' H' fps hw' x' (l2.trans l') rfl hn⟩
end DL
namespace DL
open PySem PySem.Spec PyProof.Rows L2 LamX
theorem pe_caughtV {X : Cx} {CS : Addr} {k i : Nat} {es : List Expr} {xs : List LT} {ws : List WE} {work : Str} {p pw pos : Pos} (C : CalL X.K X.mg CS) (room : Room (k + 2) X.A) (hg : Gl X "_law_caught") (D : DLams X k es xs ws)
    (hN : X.N[i]? = some work) (hv : Vis X.env.scope work) (hd : (work == ("__debug__" : Str)) = false) (hcd : (work == ("__classdict__" : Str)) = false)
    (he : starEach [Expr.Name work pw] X.env = (false, eval (Expr.Name work pw) X.env) :: starEach [] X.env) :
    PE X (.Call (.Name "_law_caught" p) [.Name work pw] [] pos) (tGive X (TTc X.K CS) (fun L t => (L, t) ∈ xs) (tVar i)) := by
  obtain ⟨st, f, fd, e, F, hm, hk, hbd, S, he1, he2, he3, v1, v2, v3, j, a1, a2, a3, b1, b2, b3, c1, c2, c3, d1, d2, d3, r1, r2, eb⟩ := C.ex
  obtain ⟨oc, od, kV, doc, pm, an, cdv, ct, osl, rfl, lk, hcd'⟩ := F.ex
  refine pe_give (k := k) hg hm hk lk hcd' hbd S rfl v1 ?_ room (fun L t hL => D.of hL) (pe_var hN hv hd hcd) (by decide) (by decide) (by decide) he
  rw [eb]
  exact caught_gives (k := "caught") (c := "caught") (b4 := ⟨0, 0, 0, 0⟩) (c4 := ⟨0, 0, 0, 0⟩) S he1 he2 he3 v1 v2 v3
theorem ds_forC {X : Cx} {E : XK} {CS P Ca : Addr} {i : Nat} {es : List Expr} {xs : List LT} {ws : List WE} {t1 : TS} {w1 : WS} {suite : List Stmt} {work cls : Str} {pw lp p1 p2 p3 p4 p5 p6 p7 p8 pos : Pos} (K0 : PySem.W.Frag) (q0 : Str) (ki : Nat) (kr : Nat)
    (C : CalL X.K X.mg CS) (R : ErrC X.K X.mg cls Ca CS) (room : Room (kr + 2) X.A) (hg : Gl X "_law_caught") (LA : LamAt X P) (D : DLams X kr es xs ws)
    (hp : PassesOwn (model X.prog X.w) X.A X.env X.xe) (hc : X.calm = true) (hND : X.N.Nodup) (hN : X.N[i]? = some work) (hl : Loc X.env.scope work)
    (hgI : Gl X "isinstance") (hmI : X.mg "isinstance" = none) (hgC : Gl X cls) (h1 : DSs X E suite t1 w1)
    (hv : Vis X.env.scope work := by first | exact Or.inl rfl | exact Or.inr (Or.inl rfl) | exact Or.inr (Or.inr rfl))
    (hd : (work == ("__debug__" : Str)) = false := by decide) (hcd : (work == ("__classdict__" : Str)) = false := by decide) (hdC : (cls == ("__debug__" : Str)) = false := by decide)
    (he : starEach [Expr.Name work p3] X.env = (false, eval (Expr.Name work p3) X.env) :: starEach [] X.env := by rfl)
    (he2 : starEach [Expr.Call (.Name "_law_caught" p2) [.Name work p3] [] p4, .Name cls p5] X.env = (false, eval (Expr.Call (.Name "_law_caught" p2) [.Name work p3] [] p4) X.env) :: starEach [.Name cls p5] X.env := by rfl)
    (he3 : starEach [Expr.Name cls p5] X.env = (false, eval (Expr.Name cls p5) X.env) :: starEach [] X.env := by rfl)
    (hpl : (backTo p6 (starEach [.Name cls p5] X.env)).any (·.1) = false := by rfl)
    (hvl : ∀ whole, isTrue (.Call (.Name "isinstance" p1) [.Call (.Name "_law_caught" p2) [.Name work p3] [] p4, .Name cls p5] [] p6) X.env whole = (do let v ← whole; standAt p6; holding [v] (truthy v)) := by intro _; rfl)
    (hf : X.fn work = true ∨ X.env.scope.names.lookup work = some .local := by first | exact .inl rfl | exact .inr rfl | assumption)
    (hs : ∀ x, foldedSetIterable (.List es lp) X.env x = pure x := by intro _; rfl) (hK : X.K = K0 := by rfl) (hq : lqX X = q0 := by rfl) :
    DS X E (.For (.Name work pw) (.List es lp) [.If (.UnaryOp .Not (.Call (.Name "isinstance" p1) [.Call (.Name "_law_caught" p2) [.Name work p3] [] p4, .Name cls p5] [] p6) p7) suite [] p8] [] pos)
      (tFor (iSeq X.K (tLst (tLams X P xs))) (gName i) (tIfS (tNot (tB (tCB (rIsEr X.K Ca) (tCons (tGive X (TTc X.K CS) (fun L t => (L, t) ∈ xs) (tVar i)) (tCons (tC (.ref Ca)) tNil))))) t1 tNext)) (wForC0 i ki P q0 K0 CS Ca ws) := by
  subst hK hq
  refine ⟨ps_for hp hc (pi_seq (pe_lst (pa_lams LA D))) (pg_name hND hN hl hf) (pss_one (ps_if (pt_not (pt_val ?_ hvl)) h1.ps pss_nil)) hs, snd_forC D room R.is⟩
  exact pe_callB cr_isEr hgI hmI (by decide +kernel) (pa_cons (pe_caughtV C room hg D hN hv hd hcd he) (pa_cons (pe_glob hgC R.g rfl hdC) pa_nil he3) he2) (by decide) (by decide) he2 hpl
end DL
namespace DL
open PySem PySem.Spec PyProof.Rows L2
structure Sh (k n : Nat) (d : D) : Prop where
  sh : d.showable = true
  nd : d.hasDict = false
  ls : d.leavesShort 13 = true
  dp : d.depth ≤ k
  bk : d.bulk ≤ n
theorem Sh.mono {k n k' n' : Nat} {d : D} (h : Sh k n d) (hk : k ≤ k') (hn : n ≤ n') : Sh k' n' d := ⟨h.sh, h.nd, h.ls, Nat.le_trans h.dp hk, Nat.le_trans h.bk hn⟩
theorem Sh.int {i : Int} (h1 : -999999999999 ≤ i) (h2 : i ≤ 999999999999) : Sh 0 0 (.int i) := by
  refine ⟨?_, rfl, ?_, Nat.le_refl _, Nat.le_refl _⟩
  · show decide (i.natAbs.log2 < 1920) = true
    rw [decide_eq_true_eq]
    by_cases h0 : i.natAbs = 0
    · rw [h0]; decide
    · exact Nat.lt_of_lt_of_le ((Nat.log2_lt h0).mpr (show i.natAbs < 2 ^ 40 by omega)) (by decide)
  · show decide ((PyData.shown (.int i)).length ≤ 13) = true
    rw [decide_eq_true_eq]
    exact PyData.shown_int_le2 h1 h2
theorem Sh.bool (b : Bool) : Sh 0 0 (.bool b) := ⟨rfl, rfl, rfl, Nat.le_refl _, Nat.le_refl _⟩
theorem Sh.none : Sh 0 0 .none := ⟨rfl, rfl, rfl, Nat.le_refl _, Nat.le_refl _⟩
theorem sh_all {k n : Nat} : ∀ {xs : List D}, (∀ x ∈ xs, Sh k n x) → PyData.showableAll xs = true ∧ PyData.hasDictAll xs = false ∧ PyData.leavesShortAll 13 xs = true ∧ PyData.depthAll xs ≤ k ∧ PyData.bulkAll xs ≤ xs.length * (n + 1)
  | [], _ => ⟨rfl, rfl, rfl, Nat.zero_le _, Nat.zero_le _⟩
  | x :: xs, h => by
    have h1 := h x (List.mem_cons_self ..)
    obtain ⟨a, b, c, d, e⟩ := sh_all (xs := xs) fun y hy => h y (List.mem_cons_of_mem _ hy)
    refine ⟨?_, ?_, ?_, ?_, ?_⟩
    · show (PyData.showable x && _) = true; rw [h1.sh, a]; rfl
    · show (PyData.hasDict x || _) = false; rw [h1.nd, b]; rfl
    · show (PyData.leavesShort 13 x && _) = true; rw [h1.ls, c]; rfl
    · exact Nat.max_le.mpr ⟨h1.dp, d⟩
    · show PyData.bulk x + 1 + PyData.bulkAll xs ≤ (xs.length + 1) * (n + 1)
      rw [Nat.add_mul, Nat.one_mul]
      have := h1.bk
      omega
theorem Sh.list {k n : Nat} {xs : List D} (h : ∀ x ∈ xs, Sh k n x) : Sh (k + 1) (xs.length * (n + 1)) (.list xs) :=
  let ⟨a, b, c, d, e⟩ := sh_all h; ⟨a, b, c, Nat.succ_le_succ d, e⟩
theorem Sh.tup {k n : Nat} {xs : List D} (h : ∀ x ∈ xs, Sh k n x) : Sh (k + 1) (xs.length * (n + 1)) (.tuple xs) :=
  let ⟨a, b, c, d, e⟩ := sh_all h; ⟨a, b, c, Nat.succ_le_succ d, e⟩
theorem Sh.listN {k n m : Nat} {xs : List D} (h : ∀ x ∈ xs, Sh k n x) (hm : xs.length ≤ m) : Sh (k + 1) (m * (n + 1)) (.list xs) := (Sh.list h).mono (Nat.le_refl _) (Nat.mul_le_mul_right _ hm)
theorem Sh.tupN {k n m : Nat} {xs : List D} (h : ∀ x ∈ xs, Sh k n x) (hm : xs.length ≤ m) : Sh (k + 1) (m * (n + 1)) (.tuple xs) := (Sh.tup h).mono (Nat.le_refl _) (Nat.mul_le_mul_right _ hm)
theorem Sh.can {k n : Nat} {d : D} (h : Sh k n d) (hk : k ≤ 150) (hn : n ≤ 6000) : CanShow d := by
  refine ⟨h.sh, h.nd, Nat.le_trans h.dp hk, ?_⟩
  have := PyData.shown_le_bulk 13 (by decide) d h.ls
  have hb := h.bk
  have : (13 + 2) * d.bulk + 13 ≤ 15 * 6000 + 13 := by omega
  omega
theorem sh_ints {ns : List Int} {m : Nat} (h : ∀ n ∈ ns, -999999999999 ≤ n ∧ n ≤ 999999999999) (hm : ns.length ≤ m) : Sh 1 m (.tuple (ns.map PyData.int)) ∧ Sh 1 m (.list (ns.map PyData.int)) := by
  have key : ∀ x ∈ ns.map PyData.int, Sh 0 0 x := fun x hx => by
    obtain ⟨n, hn, rfl⟩ := List.mem_map.mp hx
    exact Sh.int (h n hn).1 (h n hn).2
  have e : m * (0 + 1) = m := by omega
  exact ⟨e ▸ Sh.tupN key (by simpa using hm), e ▸ Sh.listN key (by simpa using hm)⟩
theorem sh_pD {p : Int × Int} (h : 0 ≤ p.1 ∧ p.1 < 8 ∧ 0 ≤ p.2 ∧ p.2 < 8) : Sh 1 2 (pD p) := by
  have := Sh.tup (k := 0) (n := 0) (xs := [.int p.1, .int p.2]) fun x hx => by
    simp only [List.mem_cons, List.not_mem_nil, or_false] at hx
    rcases hx with rfl | rfl
    · exact Sh.int (by omega) (by omega)
    · exact Sh.int (by omega) (by omega)
  exact this
theorem sh_plD {ps : List (Int × Int)} (h : Pl 8 ps) : Sh 2 24 (plD ps) := by
  have hl := Pl.len (m := 8) h
  have := Sh.tupN (k := 1) (n := 2) (m := 8) (xs := ps.map pD) (fun x hx => by
    obtain ⟨p, hp, rfl⟩ := List.mem_map.mp hx
    exact sh_pD (h.rng p hp)) (by simpa using hl)
  exact this
theorem Sh.few {k n : Nat} {xs : List D} (h : ∀ x ∈ xs, Sh k n x) (hk : k ≤ 149) (hn : xs.length * (n + 1) ≤ 6000) : CanShow (.list xs) := (Sh.list h).can (by omega) hn
end DL
namespace DL
open PySem PySem.Spec PyProof.Rows L2 LamX
def errE : Ev → Option Addr
  | .er ⟨.ref D, _⟩ => some D
  | _ => none
theorem errE_e (D : Addr) (fs) : errE (.er ⟨.ref D, fs⟩) = some D := rfl
theorem errE_some {r : Ev} {D : Addr} (h : errE r = some D) : ∃ fs, r = .er ⟨.ref D, fs⟩ := by
  unfold errE at h
  split at h
  · cases h; exact ⟨_, rfl⟩
  · cases h
def rIsEx (K : PySem.W.Frag) (C : Addr) : List V → Hp → VK → Prop := fun xs H Q => ∃ (a D : Addr) (d : Option Addr) (c : V) (b : Bool), xs = [.ref a, c] ∧ (∀ u, RelV c u → u = .ref C) ∧ H a = some (ErrO (.ref D) d a) ∧ (d = none ∨ ∃ p ws, d = some p ∧ H p = some (.xd ws)) ∧
  ExcC K D ∧ PySem.W.kitOne K (.ref D) (.ref C) = some b ∧ Q (.bl b) H
theorem inst_at {P : Program} {w : World} {H : Hp} {h : Heap} {a D : Addr} {oe : Obj} {vs : Array Value} (ok : HOk P w H h) {d : Option Addr} (hget : h.get? a = some oe) (hz : Zc (.ref D) d oe) (hv : oe.data = .fields vs)
    (hd : d = none ∨ ∃ p ws, d = some p ∧ H p = some (.xd ws)) : ∃ od : Option Obj, PySem.W.InstAt h a oe D od := by
  obtain ⟨oc, odd, oda, osl⟩ := oe
  obtain ⟨h1, h2⟩ := hz
  dsimp only at h1 h2 hv
  subst h1 h2 hv
  rcases hd with rfl | ⟨p, ws, rfl, e⟩
  · exact ⟨none, hget, rfl, rfl, True.intro⟩
  · have hx : ObjOk P w H h p (.xd ws) := ok p _ e
    obtain ⟨mA, hns, _⟩ := hx
    obtain ⟨o, es, ep, ho, _⟩ := hns
    exact ⟨some o, hget, rfl, rfl, ho⟩
theorem cr_isEx {X : Cx} {C : Addr} : CallR X (.builtin "isinstance") (rIsEx X.K C) := by
  intro pins s σ H xs us Q I r h
  obtain ⟨a, D, d, c, b, rfl, hcv, ha, hd, ex, e, q⟩ := h
  cases r with
  | cons rx rr =>
    cases rr with
    | cons rt rr =>
      cases rr
      cases rx
      have ec := hcv _ rt
      subst ec
      obtain ⟨⟨oe, vs, hget, hz, hv⟩, _⟩ := I.hok a _ ha
      obtain ⟨od, J⟩ := inst_at I.hok hget hz hv hd
      have hcl : (PySem.W.clsIn X.K D).isSome = true := by
        obtain ⟨cd, hc, _⟩ := PySem.W.any_some ex.hd
        rw [hc]; rfl
      exact PySem.W.kia_one (PySem.W.kitx_exc hcl ex.hg ex.hk ex.hs ex.ha ex.hn ex.ht ex.hm) I.kIn J e (fun z => nomatch z) fun tk => ⟨.bl b, H, I.kept (t' := tk) fun _ _ z => z, rfl, q⟩
theorem xf_dict {F H : Hp} (s : Sub F H) {x : XD} {d : Option Addr} (h : XfOk F x d) : d = none ∨ ∃ p ws, d = some p ∧ H p = some (.xd ws) := by
  unfold XfOk at h
  split at h
  · exact .inl h
  · obtain ⟨p, ws, e, h1, _⟩ := h
    exact .inr ⟨p, ws, e, s _ _ h1⟩
def gIsEx (C : Addr) : GC := fun a xs K => ∃ x y D, xs = [x, y] ∧ y = .v (.ref C) ∧ errE x = some D ∧ D = C ∧ K (.d (.bool true))
theorem d_isEx {X : Cx} {C : Addr} (R : ExcC X.K C) : CallR X (.builtin "isinstance") (rIsEx X.K C) ∧ RCS (rIsEx X.K C) (gIsEx C) := by
  refine ⟨cr_isEx, ?_⟩
  intro a σ F H fps xs vs x o Kz k Q q
  obtain ⟨y, z, D, rfl, rfl, e, rfl, k⟩ := k
  obtain ⟨v, u, rfl, h1, h2⟩ := vals_two o
  obtain ⟨fs, rfl⟩ := errE_some e
  obtain ⟨b, d, rfl, hb, hx⟩ := h1
  have hu : u = .ref D := h2
  subst hu
  exact ⟨b, D, d, .ref D, true, rfl, fun u r => r, x.sub _ _ hb, xf_dict x.sub hx, R, by unfold PySem.W.kitOne; rw [if_pos (by simp)], q _ _ _ _ k x (Le.refl _ _ _) (.bl true) trivial⟩
theorem u_isEx {a : AS} {x : Ev} {C : Addr} {K : Ev → Prop} : gIsEx C a [x, .v (.ref C)] K = so (errE x) fun D => side (D = C) (K (.d (.bool true))) := by
  refine propext ⟨fun ⟨x', y, D, e, e1, e2, h, k⟩ => ?_, fun k => ?_⟩
  · cases e; rw [e2]; exact ⟨h, k⟩
  · obtain ⟨D, e2, h, k⟩ := so_e k
    exact ⟨x, _, D, rfl, rfl, e2, h, k⟩
def wCaughtX (k : Nat) (P : Addr) (q : Str) (K0 : PySem.W.Frag) (CS : Addr) (wb : WE) : WE := fun a K B => a.ow[k]? = some (.tb P q) ∧
  wb a (fun _ a1 => K (.d .none) a1) (fun x a1 => so (errE (.er x)) fun D => side (PySem.W.exmOne K0 (.ref D) (.ref CS) = some true) (K (.er x) a1))
theorem e_caughtX {P : Addr} {q : Str} {K0 : PySem.W.Frag} {CS : Addr} {wb : WE} {sl : List Sl} {ow : List Own} {n : Nat} {K : Ev → AS → Prop} {B : XD → AS → Prop} : wCaughtX 0 P q K0 CS wb ⟨sl, .tb P q :: ow, n⟩ K B =
    wb ⟨sl, .tb P q :: ow, n⟩ (fun _ a1 => K (.d .none) a1) (fun x a1 => so (errE (.er x)) fun D => side (PySem.W.exmOne K0 (.ref D) (.ref CS) = some true) (K (.er x) a1)) :=
  propext ⟨fun h => h.2, fun h => ⟨rfl, h⟩⟩
theorem xd_caughtX {a : AS} {σ : Sgm} {F H F' H' : Hp} {fps : List (List Addr)} {x : XD} {d : Option Addr} {p : Addr} (ok : AOk a σ F' H' fps) (l : Le F H fps.flatten F' H' fps.flatten) (hd : XdOk F' H' fps x d) (np : H' p = none) :
    AOk a σ (upd F' p (ErrO x.cls d p)) (upd H' p (ErrO x.cls d p)) fps ∧ Le F H fps.flatten (upd F' p (ErrO x.cls d p)) (upd H' p (ErrO x.cls d p)) fps.flatten ∧ ErOk (upd F' p (ErrO x.cls d p)) x (.ref p) := by
  have hx : XfOk F' x d := hd
  exact ⟨ok.newF np, l.trans (Le.newF ok.sub np), p, d, rfl, upd_same, hx.mono (Sub.put (ok.sub.gone np))⟩
theorem snd_caughtX {X : Cx} {E : XK} {k : Nat} {P CS : Addr} {L : Lm} {tb : XK → TE} {wb : WE} (hb : ∀ E', SndE E' (tb E') wb) :
    SndE E (tGive X (TTc X.K CS) (fun L' t => L' = L ∧ t = tb) (tLm X P L)) (wCaughtX k P (lqX X) X.K CS wb) := by
  intro a K B ⟨hk, h⟩ σ F H fps x Q q _
  refine snd_lm (tb := tb) x hk fun v F1 H1 x1 l1 ⟨f, c', ev, h1, h2⟩ => ?_
  subst ev
  refine ⟨f, c', L, tb, ⟨rfl, rfl⟩, rfl, x1.sub _ _ h2, x1.sub _ _ h1, hb _ a _ _ h σ F1 _ fps x1 _ (fun r a' v F' H' k1 n1 x3 l3 o w => ?_) fun y a' d F' H' k1 n1 x3 l3 o => ?_⟩
  · exact q _ a' _ F' H' k1 n1 x3 (l1.trans l3) .non trivial
  · obtain ⟨D, hD, he, k1⟩ := so_e k1
    obtain ⟨fs, hy⟩ := errE_some hD
    cases hy
    refine ⟨he, fun p np => ?_⟩
    obtain ⟨y1, y2, y3⟩ := xd_caughtX x3 (l1.trans l3) o np
    exact q _ a' _ _ _ k1 n1 y1 y2 y3 trivial
theorem de_caughtX {X : Cx} {E : XK} {CS P : Addr} {params : Arguments} {body : Expr} {scope : Scope} {tb : XK → TE} {wb : WE} {p lpos pos : Pos} (ki : Nat) (k : Nat) (C : CalL X.K X.mg CS) (room : Room (k + 2) X.A) (hg : Gl X "_law_caught") (LA : LamAt X P)
    (sc : LamS X.env.scope scope) (df : defaultsOf params X.env = ([], [])) (bn : ∀ (q : Str) (cl : List (Str × Addr)) (pm cv ctv : Value), bindArgs (PySem.W.kla_fn "<lambda>" q params body scope cl pm cv ctv) ⟨[], []⟩ = pure [])
    (hb : ∀ (A : Around) (outer : List Env) (s1 : Shared) (H1 : Hp) (E' : XK) (f c' : Addr), Room k (A.deeper (lamEnv X scope s1.heap.objs.size f c')) → DE (lamCx X A outer s1 H1 E' scope f c') E' body (tb E') wb)
    (he : starEach [Expr.Lambda params body scope lpos] X.env = (false, eval (Expr.Lambda params body scope lpos) X.env) :: starEach [] X.env := by rfl) :
    DE X E (.Call (.Name "_law_caught" p) [.Lambda params body scope lpos] [] pos) (tGive X (TTc X.K CS) (fun L' t => L' = ⟨params, body, scope⟩ ∧ t = tb) (tLm X P ⟨params, body, scope⟩)) (wCaughtX ki P (lqX X) X.K CS wb) :=
  ⟨(de_caught (E := E) ki k C room hg LA sc df bn hb he).pe, snd_caughtX fun E' => (hb (X.A.deeper X.env) [] X.s_0 X.H_0 E' 0 0 ((room.deeper _).deeper _)).so⟩
theorem de_caughtKX {X : Cx} {E : XK} {CS P : Addr} {params : Arguments} {body : Expr} {scope : Scope} {tb : XK → TE} {wb : WE} {p lpos pos : Pos} (K0 : PySem.W.Frag) (q0 : Str) (ki : Nat) (k : Nat) (C : CalL X.K X.mg CS) (room : Room (k + 2) X.A) (hg : Gl X "_law_caught") (LA : LamAt X P)
    (sc : LamS X.env.scope scope) (df : defaultsOf params X.env = ([], [])) (bn : ∀ (q : Str) (cl : List (Str × Addr)) (pm cv ctv : Value), bindArgs (PySem.W.kla_fn "<lambda>" q params body scope cl pm cv ctv) ⟨[], []⟩ = pure [])
    (hb : ∀ (A : Around) (outer : List Env) (s1 : Shared) (H1 : Hp) (E' : XK) (f c' : Addr), Room k (A.deeper (lamEnv X scope s1.heap.objs.size f c')) → DE (lamCx X A outer s1 H1 E' scope f c') E' body (tb E') wb)
    (he : starEach [Expr.Lambda params body scope lpos] X.env = (false, eval (Expr.Lambda params body scope lpos) X.env) :: starEach [] X.env := by rfl) (hK : X.K = K0 := by rfl) (hq : lqX X = q0 := by rfl) :
    DE X E (.Call (.Name "_law_caught" p) [.Lambda params body scope lpos] [] pos) (tGive X (TTc X.K CS) (fun L' t => L' = ⟨params, body, scope⟩ ∧ t = tb) (tLm X P ⟨params, body, scope⟩)) (wCaughtX ki P q0 K0 CS wb) := by
  subst hK hq
  exact de_caughtX ki k C room hg LA sc df bn hb he
def isNoE : Ev → Option Bool
  | .d .none => some true
  | .er _ => some false
  | .nl _ => some false
  | .nd _ => some false
  | .d (.bool _) => some false
  | .d (.int _) => some false
  | .d (.str _) => some false
  | .d (.tuple _) => some false
  | .d (.list _) => some false
  | .d (.dict _) => some false
  | _ => none
theorem isNo_of {F H : Hp} {fps : List (List Addr)} {r : Ev} {v : V} {b : Bool} (o : ValOk F H fps r v) (h : isNoE r = some b) : decide (v = .non) = b := by
  unfold isNoE at h
  split at h
  · cases h; cases o; rfl
  · cases h; obtain ⟨a, d, rfl, _⟩ := o; rfl
  · cases h; obtain ⟨p, vs, rfl, _⟩ := o; rfl
  · cases h; obtain ⟨p, rfl, _⟩ := o; rfl
  all_goals first
    | (cases h; cases o <;> rfl)
    | cases h
def wIsN (f : Bool → Bool) (we : WE) : WE := fun a K B => we a (fun r a1 => so (isNoE r) fun b => K (.d (.bool (f b))) a1) B
theorem snd_isN {E : XK} {te : TE} {we : WE} (h : SndE E te we) : SndE E (tIsN te) (wIsN id we) := by
  intro a K B k σ F H fps x Q q b
  refine h a _ B k σ F H fps x _ (fun r a1 v F1 H1 k1 n1 x1 l1 o1 w1 => ?_) b
  obtain ⟨c, e, k1⟩ := so_e k1
  rw [isNo_of o1 e]
  exact q _ a1 _ F1 H1 k1 n1 x1 l1 (.bl _) trivial
theorem snd_notN {E : XK} {te : TE} {we : WE} (h : SndE E te we) : SndE E (tNotN te) (wIsN not we) := by
  intro a K B k σ F H fps x Q q b
  refine h a _ B k σ F H fps x _ (fun r a1 v F1 H1 k1 n1 x1 l1 o1 w1 => ?_) b
  obtain ⟨c, e, k1⟩ := so_e k1
  rw [isNo_of o1 e]
  exact q _ a1 _ F1 H1 k1 n1 x1 l1 (.bl _) trivial
theorem de_isN {X : Cx} {E : XK} {e : Expr} {te : TE} {we : WE} {j : Nat} {p pos : Pos} (h : DE X E e te we) : DE X E (.Compare e [.Is] [.Constant .none j p] pos) (tIsN te) (wIsN id we) := ⟨pe_cmp (pc_isN h.pe), snd_isN h.so⟩
theorem de_notN {X : Cx} {E : XK} {e : Expr} {te : TE} {we : WE} {j : Nat} {p pos : Pos} (h : DE X E e te we) : DE X E (.Compare e [.IsNot] [.Constant .none j p] pos) (tNotN te) (wIsN not we) := ⟨pe_cmp (pc_notN h.pe), snd_notN h.so⟩
theorem dt_isN {X : Cx} {E : XK} {e : Expr} {te : TE} {we : WE} {j : Nat} {p pos : Pos} (h : DE X E e te we) : DT X E (.Compare e [.Is] [.Constant .none j p] pos) (tB (tIsN te)) (wTst (wIsN id we)) := ⟨pt_cmp (pc_isN h.pe), snd_tB (snd_isN h.so)⟩
theorem dt_notN {X : Cx} {E : XK} {e : Expr} {te : TE} {we : WE} {j : Nat} {p pos : Pos} (h : DE X E e te we) : DT X E (.Compare e [.IsNot] [.Constant .none j p] pos) (tB (tNotN te)) (wTst (wIsN not we)) := ⟨pt_cmp (pc_notN h.pe), snd_tB (snd_notN h.so)⟩
theorem e_isN {f : Bool → Bool} {we : WE} {a : AS} {K : Ev → AS → Prop} {B : XD → AS → Prop} : wIsN f we a K B = we a (fun r a1 => so (isNoE r) fun b => K (.d (.bool (f b))) a1) B := rfl
theorem isNo_n : isNoE (.d .none) = some true := rfl
theorem isNo_er {x : XD} : isNoE (.er x) = some false := rfl
theorem isNo_i {i : Int} : isNoE (.d (.int i)) = some false := rfl
theorem isNo_b {b : Bool} : isNoE (.d (.bool b)) = some false := rfl
theorem isNo_t {xs : List D} : isNoE (.d (.tuple xs)) = some false := rfl
theorem isNo_l {xs : List D} : isNoE (.d (.list xs)) = some false := rfl
end DL
namespace DL
open PySem PySem.Spec PyProof.Rows L2 LamX
structure BaseC (K : PySem.W.Frag) (mg : Str → Option Value) (x : Str) (C : Addr) : Prop where
  g : mg x = some (.ref C)
  rd : PySem.W.readsIn K C (.type "type") = true
  ga : PySem.W.specialIn K (.ref C) "__getattribute__" = some (some (.builtin "type.__getattribute__"))
  vV : PySem.W.findCls K (.ref C) (.type "type") "__init__" = some (.val (.builtin "ValueError.__init__"))
theorem pe_oinit {X : Cx} {CP : Addr} {x : Str} {e : Expr} {es : List Expr} {ta : TA} {p1 p2 pos : Pos} {pl : Sem Bool} (B : BaseC X.K X.mg x CP) (hg : Gl X x) (ha : PA X (e :: es) ta)
    (hc : eval (.Call (.Attribute (.Name x p1) "__init__" p2) (e :: es) [] pos) X.env = (do
      let ov ← eval (.Name x p1) X.env
      standAt p2.atName
      let (f, first) ← holding [ov] (getMethod ov "__init__" pl)
      callWith pos f first (backTo pos (starEach (e :: es) X.env)) (backToKw pos (keywordEach [] X.env))) := by rfl)
    (hdb : (x == ("__debug__" : Str)) = false := by decide) (he : starEach (e :: es) X.env = (false, eval e X.env) :: starEach es X.env := by rfl) (hpl : (backTo pos (starEach es X.env)).any (·.1) = false := by rfl) :
    PE X (.Call (.Attribute (.Name x p1) "__init__" p2) (e :: es) [] pos) (tVeI X.K ta) := by
  refine ⟨fun pins s σ H Q I h => ?_⟩
  refine PySem.W.methodCall_KW (ld_glob I hg B.g ?_ hdb) hc
  refine PySem.W.method_cls I.kIn B.ga (PySem.W.cls_value I.kIn B.rd B.vV rfl ?_)
  show wpAny _ _ (callWith pos (Value.builtin "ValueError.__init__") [] (backTo pos (starEach (e :: es) X.env)) []) _ _ _
  refine PyProof.Rows.callWith_method1 (thn (ha.run pos pins _ σ H _ (I.tok _) h) fun us s1 ⟨vs, H1, I1, r1, a, C, ws, ev, hl, T, ea, q⟩ => ?_) he hpl
  subst ev
  cases r1 with
  | @cons _ u0 _ ur ra rw' =>
    obtain rfl : u0 = Value.ref a := ra
    have hlen : ur.length ≤ sizeLine := by
      rw [← Paired.length rw', sizeLine_eq]
      omega
    exact oinit_ok T I1 ea hlen fun s' J => ⟨.non, H1, J, rfl, q⟩
def spInit (K : PySem.W.Frag) (m : Str) : Sp := fun vs H Q _ => ∃ (a C : Addr) (y : V), vs = [.ref a, y] ∧ OexC K C ∧ PySem.W.findIn K (.ref C) m = some none ∧ H a = some (exo a C none) ∧
  ∀ dx, H dx = none → dx ≠ a → Q .non (upd (upd H dx (exd dx [(m, y)])) a (exo a C (some dx)))
structure ErrF (P : Program) (w : World) (K : PySem.W.Frag) (mg : Str → Option Value) (base : Heap) (k : Nat) (x m : Str) (C CP : Addr) : Prop where
  g : mg x = some (.ref C)
  T : OexC K C
  is : ExcC K C
  xf : XfC K C
  no : PySem.W.findIn K (.ref C) m = some none
  pe : PySem.W.exmOne K (.ref C) (.ref CP) = some true
  ex : ∃ (fI : Addr) (fd : FuncData) (ps : List Str), PySem.W.findIn K (.ref C) "__init__" = some (some (.ref fI)) ∧ PySem.W.typeIn K (.ref fI) = some (.type "function") ∧ FnG P w K mg base false k fI fd ps (spInit K m) ∧ Binds K fd ps []
theorem FnG.ok {P : Program} {w : World} {K : PySem.W.Frag} {mg : Str → Option Value} {base : Heap} {k : Nat} {f : Addr} {fd : FuncData} {ps : List Str} {sp : Sp} (F : FnG P w K mg base false k f fd ps sp) : FnOk P w K mg base (L2.CX P w) k f fd ps sp :=
  ⟨F.len, fun A outer s H args us vs Q E hr => F.run A outer s H args us vs Q E hr (fun z => nomatch z)⟩
def oneD : List Ev → Option D
  | [.d x] => some x
  | _ => none
theorem oneD_e {x : D} : oneD [.d x] = some x := rfl
theorem oneD_some {rs : List Ev} {x : D} (h : oneD rs = some x) : rs = [.d x] := by
  unfold oneD at h
  split at h
  · cases h; rfl
  · cases h
def wRaiseF (C : Addr) (m : Str) (wa : WA) : WS := fun a A => wa a (fun rs a1 => so (oneD rs) fun x => A.xb ⟨.ref C, some [(m, x)]⟩ a1) A.xb
theorem e_raiseF {C : Addr} {m : Str} {wa : WA} {a : AS} {A : AE} : wRaiseF C m wa a A = wa a (fun rs a1 => so (oneD rs) fun x => A.xb ⟨.ref C, some [(m, x)]⟩ a1) A.xb := rfl
theorem snd_raiseF {K : PySem.W.Frag} {E : XK} {C : Addr} {m : Str} {ta : TA} {wa : WA} (T : OexC K C) (no : PySem.W.findIn K (.ref C) m = some none) (h : SndA E ta wa) :
    SndS E (fun _ σ H => tMkO C (spInit K m) [] ta σ H fun cls d H' => E cls d H') (wRaiseF C m wa) := by
  intro a A k σ F H fps x D en
  refine h a _ _ k σ F H fps x _ (fun rs a1 vs F1 H1 k1 n1 x1 l1 o1 w1 => ?_) (ends_b en)
  obtain ⟨y, hy, k2⟩ := so_e k1
  clear k1
  have := oneD_some hy
  subst this
  obtain ⟨v, rfl, hv⟩ := vals_one o1
  refine ⟨by simp, fun b nb => ⟨b, C, v, rfl, T, no, upd_same, fun dx ndx hne => ?_⟩⟩
  have nd : H1 dx = none := by rw [upd_ne hne] at ndx; exact ndx
  refine ⟨rfl, dx, [(m, v)], upd_same, ?_, nd, ?_⟩
  · rw [upd_ne hne, upd_same]
  have e : upd (del (upd (upd (upd H1 b (exo b C none)) dx (exd dx [(m, v)])) b (exo b C (some dx))) b) dx (.xd [(m, v)]) = upd H1 dx (.xd [(m, v)]) := by
    funext c
    by_cases hc : c = dx
    · subst hc; rw [upd_same, upd_same]
    · rw [upd_ne hc, upd_ne hc]
      by_cases hb : c = b
      · subst hb; rw [del_same, nb]
      · rw [del_ne hb, upd_ne hb, upd_ne hc, upd_ne hb]
  rw [e]
  refine en.xb ⟨.ref C, some [(m, y)]⟩ a1 σ (some dx) (upd F1 dx (.xd [(m, v)])) _ fps k2 (x1.newF nd) (l1.trans (Le.newF x1.sub nd)) rfl n1 ?_
  exact ⟨dx, [(m, v)], rfl, upd_same, rfl, .cons (Rep.mono (Sub.put (x1.sub.gone nd)) hv) .nil⟩
theorem ds_raiseF {X : Cx} {E : XK} {x m : Str} {C CP : Addr} {k j : Nat} {e : Expr} {es : List Expr} {ta : TA} {wa : WA} {p pos pos' : Pos} (hc : X.calm = true) (tk : Takes X (fun cls d _ H => E cls d H)) (R : ErrF X.prog X.w X.K X.mg X.base k x m C CP) (hr : Room j X.A) (hj : k + 1 ≤ j)
    (hx : Passes (L2.CX X.prog X.w) X (fun _ _ _ => False)) (hg : Gl X x) (ha : DA X E (e :: es) ta wa) (hdb : (x == ("__debug__" : Str)) = false := by decide) (he : starEach (e :: es) X.env = (false, eval e X.env) :: starEach es X.env := by rfl) (hpl : (backTo pos (starEach es X.env)).any (·.1) = false := by rfl) :
    DS X E (.Raise (some (.Call (.Name x p) (e :: es) [] pos)) none pos') (fun _ σ H => tMkO C (spInit X.K m) [] ta σ H fun cls d H' => E cls d H') (wRaiseF C m wa) := by
  obtain ⟨fI, fd, ps, iC, tI, F, hb⟩ := R.ex
  exact ⟨ps_raise hc tk (pmk_oex R.T iC tI F.ok (hr.mono hj) hb .nil hx hg R.g ha.pa hdb he hpl), snd_raiseF R.T R.no ha.so⟩
def tFld (C : Addr) (m : Str) (te : TE) : TE := fun σ H Q => te σ H fun x H1 => ∃ (a dd : Addr) (fs : List (Str × V)) (v : V), x = .ref a ∧ H1 a = some (ErrO (.ref C) (some dd) a) ∧ H1 dd = some (.xd fs) ∧ fs.lookup m = some v ∧ Q v H1
theorem pe_fld {X : Cx} {C : Addr} {e : Expr} {te : TE} {pos : Pos} {m : Str} (T : XfC X.K C) (hno : PySem.W.findIn X.K (.ref C) m = some none) (he : PE X e te) (hb : attributeBase e m X.env (eval e X.env) = eval e X.env := by rfl) :
    PE X (.Attribute e m pos) (tFld C m te) := by
  refine ⟨fun pins s σ H Q I h => ?_⟩
  refine attr_of hb (thn (he.run pins s σ H _ I h) fun u s1 hh => ?_)
  obtain ⟨x, H1, I1, rx, a, dd, fs, v, ex, ha, ea, l, q⟩ := hh
  subst ex
  obtain rfl : u = Value.ref a := rx
  obtain ⟨⟨oe, vs, hget, hz, hd⟩, _⟩ := I1.hok a _ ha
  have hx : ObjOk X.prog X.w H1 s1.heap dd (.xd fs) := I1.hok dd _ ea
  obtain ⟨mA, hns, hr⟩ := hx
  obtain ⟨od, ho, hl⟩ := lookIn_ns hns
  obtain ⟨u, hu, ru⟩ := RelO.some_of (v := v) (o := mA m) (by rw [← l]; exact hr m)
  have J : PySem.W.InstAt s1.heap a oe C (some od) := ⟨hget, hz.1, by unfold PySem.W.notCls; rw [hd] <;> rfl, by rw [hz.2]; exact ho⟩
  exact HandSPX.exc_get I1.kIn J T.ga T.gg T.exC (PySem.W.findObj_own T.hdC hno rfl (by rw [hl, hu])) (handed_of ru) ⟨v, H1, I1.tok _, ru, q⟩
def fldE (C : Addr) (m : Str) : Ev → Option D
  | .er ⟨.ref D, some [(f, x)]⟩ => if D = C ∧ f = m then some x else none
  | _ => none
theorem fldE_e {C : Addr} {m : Str} {x : D} : fldE C m (.er ⟨.ref C, some [(m, x)]⟩) = some x := by
  show (if C = C ∧ m = m then some x else none) = some x
  rw [if_pos ⟨rfl, rfl⟩]
theorem fldE_some {C : Addr} {m : Str} {r : Ev} {x : D} (h : fldE C m r = some x) : r = .er ⟨.ref C, some [(m, x)]⟩ := by
  unfold fldE at h
  split at h
  · split at h
    · rename_i z
      obtain ⟨rfl, rfl⟩ := z
      cases h; rfl
    · cases h
  · cases h
def wFld (C : Addr) (m : Str) (we : WE) : WE := fun a K B => we a (fun r a1 => so (fldE C m r) fun x => K (.d x) a1) B
theorem e_fld {C : Addr} {m : Str} {we : WE} {a : AS} {K : Ev → AS → Prop} {B : XD → AS → Prop} : wFld C m we a K B = we a (fun r a1 => so (fldE C m r) fun x => K (.d x) a1) B := rfl
theorem de_fld {X : Cx} {E : XK} {C : Addr} {e : Expr} {te : TE} {we : WE} {pos : Pos} {m : Str} (T : XfC X.K C) (hno : PySem.W.findIn X.K (.ref C) m = some none) (he : DE X E e te we) (hb : attributeBase e m X.env (eval e X.env) = eval e X.env := by rfl) :
    DE X E (.Attribute e m pos) (tFld C m te) (wFld C m we) := by
  refine ⟨pe_fld T hno he.pe hb, ?_⟩
  intro a K B k σ F H fps x Q q b
  refine he.so a _ B k σ F H fps x _ (fun r a1 v F1 H1 k1 n1 x1 l1 o1 w1 => ?_) b
  obtain ⟨y, e, k2⟩ := so_e k1
  clear k1
  have := fldE_some e
  subst this
  obtain ⟨c, d, rfl, hc, dd, ws, rfl, h1, h2, h3⟩ := o1
  match ws, h2, h3 with
  | [(f, v)], h2, h3 =>
    have hf : f = m := by simpa using h2
    subst hf
    cases h3 with
    | cons rv _ =>
      exact ⟨c, dd, [(f, v)], v, rfl, x1.sub _ _ hc, x1.sub _ _ h1, by simp [List.lookup], q _ a1 v F1 H1 k2 n1 x1 l1 rv trivial⟩
end DL
namespace DL
open PySem PySem.Spec PyProof.Rows L2
theorem isK_of {d : D} (h : isK d = true) : ∃ k : Key, d = keyD k := by
  cases d with
  | int i => exact ⟨.inl i, rfl⟩
  | str x => exact ⟨.inr x, rfl⟩
  | _ => cases h
theorem isKs_of : ∀ {xs : List D}, xs.all isK = true → ∃ ks : List Key, xs = ks.map keyD
  | [], _ => ⟨[], rfl⟩
  | x :: xs, h => by
    rw [List.all_cons, Bool.and_eq_true] at h
    obtain ⟨k, rfl⟩ := isK_of h.1
    obtain ⟨ks, rfl⟩ := isKs_of h.2
    exact ⟨k :: ks, rfl⟩
theorem isKT_of {d : D} (h : isKT d = true) : ∃ ks : List Key, d = .tuple (ks.map keyD) := by
  cases d with
  | tuple xs => obtain ⟨ks, rfl⟩ := isKs_of h; exact ⟨ks, rfl⟩
  | _ => cases h
theorem eqv_key (a b : Key) : PyData.eqv (keyD a) (keyD b) = decide (a = b) := by
  cases a with
  | inl i => cases b with
    | inl j => show (i == j) = _; by_cases h : i = j <;> simp [h]
    | inr y => show false = _; simp
  | inr x => cases b with
    | inl j => show false = _; simp
    | inr y => show (x == y) = _; by_cases h : x = y <;> simp [h]
theorem eqv_keys (a b : List Key) : PyData.eqv (.tuple (a.map keyD)) (.tuple (b.map keyD)) = decide (a = b) := by
  have go : ∀ a b : List Key, PyData.eqvAll (a.map keyD) (b.map keyD) = decide (a = b) := by
    intro a
    induction a with
    | nil => intro b; cases b with
      | nil => rfl
      | cons n ns => rfl
    | cons m ms ih =>
      intro b
      cases b with
      | nil => rfl
      | cons n ns =>
        show (PyData.eqv (keyD m) (keyD n) && PyData.eqvAll (ms.map keyD) (ns.map keyD)) = _
        rw [ih, eqv_key]
        by_cases h : m = n <;> by_cases h2 : ms = ns <;> simp [h, h2]
  exact go a b
theorem keyD_inj {a b : Key} (h : keyD a = keyD b) : a = b := by
  have := eqv_key a b
  cases a <;> cases b <;> simp_all [keyD]
theorem keys_kV {F : Hp} : ∀ {k : List Key} {vs : List V}, RepAll F vs (k.map keyD) → vs = k.map kV
  | [], _, .nil => rfl
  | k :: ks, _, .cons h r => by
    have e := keys_kV r
    cases k with
    | inl i => cases h; rw [e]; rfl
    | inr x => cases h; rw [e]; rfl
theorem key_kV {F : Hp} {k : Key} {v : V} (h : Rep F v (keyD k)) : v = kV k := by
  cases k with
  | inl i => cases h; rfl
  | inr x => cases h; rfl
def dlook (kvs : List (D × D)) (k : D) : Option D := (kvs.find? fun p => PyData.eqv p.1 k).map (·.2)
def dput (kvs : List (D × D)) (k v : D) : List (D × D) := if kvs.any (fun p => PyData.eqv p.1 k) then kvs.map (fun p => if PyData.eqv p.1 k then (p.1, v) else p) else kvs ++ [(k, v)]
def KeyOk (kvs : List (D × D)) (k : D) : Prop := (isK k = true ∧ ∀ p ∈ kvs, isK p.1 = true) ∨ (isKT k = true ∧ ∀ p ∈ kvs, isKT p.1 = true)
def DcR (F H : Hp) (p : Addr) (kvs : List (D × D)) : Prop :=
  (∃ ks : List (Key × V), Rd H p (.dK ks) ∧ kvs.map (·.1) = ks.map (fun k => keyD k.1) ∧ RepAll F (ks.map (·.2)) (kvs.map (·.2))) ∨
  (∃ ks : List (List Key × V), Rd H p (.dT ks) ∧ kvs.map (·.1) = ks.map (fun k => PyData.tuple (k.1.map keyD)) ∧ RepAll F (ks.map (·.2)) (kvs.map (·.2)))
def dvw (a : AS) : Ev → Option (List (D × D))
  | .d (.dict kvs) => some kvs
  | .nd kvs => some kvs
  | .o k => match a.ow[k]? with
    | some (.dc kvs) => some kvs
    | some (.lk _ kvs) => some kvs
    | _ => none
  | _ => none
def KeysOk (kvs : List (D × D)) : Prop := (∀ p ∈ kvs, isK p.1 = true) ∨ (∀ p ∈ kvs, isKT p.1 = true)
theorem KeysOk.no {kvs : List (D × D)} (k : KeysOk kvs) (h : ∃ q ∈ kvs, isK q.1 = false ∧ isKT q.1 = false) : False := by
  obtain ⟨q, hq, z1, z2⟩ := h
  rcases k with k | k
  · rw [k q hq] at z1; cases z1
  · rw [k q hq] at z2; cases z2
theorem DcOk.r {F H : Hp} {p : Addr} {kvs : List (D × D)} (d : DcOk F H p kvs) (k : KeysOk kvs) : DcR F H p kvs := by
  rcases d with ⟨ks, e, m, r⟩ | ⟨ks, e, m, r⟩ | ⟨_, _, _, _, _, z, _⟩
  · exact .inl ⟨ks, .inl e, m, r⟩
  · exact .inr ⟨ks, .inl e, m, r⟩
  · exact (k.no z).elim
theorem DcLk.r {F H : Hp} {p : Addr} {o : Obj} {kvs : List (D × D)} (d : DcLk F H p o kvs) : DcR F H p kvs := by
  rcases d with ⟨ks, e, y, l, m, r⟩ | ⟨ks, qs, e, y, l, m, q, r⟩
  · exact .inl ⟨ks, .inr ⟨_, e⟩, m, r⟩
  · exact .inr ⟨ks, .inr ⟨_, e⟩, m, r⟩
section
variable {a : AS} {σ : Sgm} {F H : Hp} {fps : List (List Addr)}
def RepO (F : Hp) : Option V → Option D → Prop
  | some v, some d => Rep F v d
  | none, none => True
  | _, _ => False
theorem KeyOk.keys {kvs : List (D × D)} {k : D} (h : KeyOk kvs k) : KeysOk kvs := h.imp (·.2) (·.2)
theorem look_rep {κ : Type} [DecidableEq κ] {f : κ → D} (hf : ∀ a b, PyData.eqv (f a) (f b) = decide (a = b)) : ∀ {ks : List (κ × V)} {kvs : List (D × D)}, kvs.map (·.1) = ks.map (fun k => f k.1) → RepAll F (ks.map (·.2)) (kvs.map (·.2)) → ∀ k, RepO F (valV ks k) (dlook kvs (f k))
  | [], [], _, _, k => trivial
  | [], _ :: _, e, _, _ => by simp at e
  | _ :: _, [], e, _, _ => by simp at e
  | (k1, v) :: ks, (d1, d) :: kvs, e, r, k => by
    simp only [List.map_cons, List.cons.injEq] at e
    obtain ⟨e1, e2⟩ := e
    subst e1
    cases r with
    | cons r1 rr =>
      by_cases h : k1 = k
      · subst h
        rw [valV_pos (p := (k1, v)) rfl]
        have : dlook ((f k1, d) :: kvs) (f k1) = some d := by
          unfold dlook
          rw [List.find?_cons_of_pos (by rw [hf]; simp)]; rfl
        rw [this]; exact r1
      · rw [valV_neg (p := (k1, v)) h]
        have : dlook ((f k1, d) :: kvs) (f k) = dlook kvs (f k) := by
          unfold dlook
          rw [List.find?_cons_of_neg (by rw [hf]; simpa using h)]
        rw [this]
        exact look_rep hf e2 rr k
theorem any_rep {κ : Type} [DecidableEq κ] {f : κ → D} (hf : ∀ a b, PyData.eqv (f a) (f b) = decide (a = b)) : ∀ {ks : List (κ × V)} {kvs : List (D × D)}, kvs.map (·.1) = ks.map (fun k => f k.1) → ∀ k, kvs.any (fun p => PyData.eqv p.1 (f k)) = ks.any fun p => decide (p.1 = k)
  | [], [], _, k => rfl
  | [], _ :: _, e, _ => by simp at e
  | _ :: _, [], e, _ => by simp at e
  | (k1, v) :: ks, (d1, d) :: kvs, e, k => by
    simp only [List.map_cons, List.cons.injEq] at e
    obtain ⟨e1, e2⟩ := e
    subst e1
    rw [List.any_cons, List.any_cons, any_rep hf e2 k, hf]
theorem put_rep {κ : Type} [DecidableEq κ] {f : κ → D} (hf : ∀ a b, PyData.eqv (f a) (f b) = decide (a = b)) {ks : List (κ × V)} {kvs : List (D × D)} (e : kvs.map (·.1) = ks.map (fun k => f k.1)) (r : RepAll F (ks.map (·.2)) (kvs.map (·.2))) (k : κ) {v : V} {d : D} (rv : Rep F v d) :
    (dput kvs (f k) d).map (·.1) = (putK ks k v).map (fun k => f k.1) ∧ RepAll F ((putK ks k v).map (·.2)) ((dput kvs (f k) d).map (·.2)) := by
  unfold dput putK
  rw [any_rep hf e k]
  split
  · have go : ∀ {ks : List (κ × V)} {kvs : List (D × D)}, kvs.map (·.1) = ks.map (fun k => f k.1) → RepAll F (ks.map (·.2)) (kvs.map (·.2)) →
        (kvs.map (fun p => if PyData.eqv p.1 (f k) then (p.1, d) else p)).map (·.1) = (ks.map (fun kv => if kv.1 = k then (kv.1, v) else kv)).map (fun k => f k.1) ∧
        RepAll F ((ks.map (fun kv => if kv.1 = k then (kv.1, v) else kv)).map (·.2)) ((kvs.map (fun p => if PyData.eqv p.1 (f k) then (p.1, d) else p)).map (·.2)) := by
      intro ks
      induction ks with
      | nil => intro kvs e r; cases kvs with
        | nil => exact ⟨rfl, .nil⟩
        | cons _ _ => simp at e
      | cons q ks ih =>
        intro kvs e r
        cases kvs with
        | nil => simp at e
        | cons p kvs =>
          obtain ⟨k1, v1⟩ := q
          obtain ⟨d1, d2⟩ := p
          simp only [List.map_cons, List.cons.injEq] at e
          obtain ⟨e1, e2⟩ := e
          subst e1
          cases r with
          | cons r1 rr =>
            obtain ⟨i1, i2⟩ := ih e2 rr
            simp only [List.map_cons, hf]
            by_cases h : k1 = k
            · simp only [h, decide_true, if_true]; exact ⟨by rw [i1], .cons rv i2⟩
            · simp only [h, decide_false, if_false]; exact ⟨by rw [i1]; rfl, .cons r1 i2⟩
    exact go e r
  · rw [List.map_append, List.map_append, List.map_append, List.map_append, e]
    exact ⟨rfl, r.app (.one rv)⟩
theorem dvw_at (x : AOk a σ F H fps) {r : Ev} {v : V} {kvs : List (D × D)} (h : ValOk F H fps r v) (e : dvw a r = some kvs) (od : KeysOk kvs) : ∃ p, v = .ref p ∧ DcR F H p kvs := by
  cases r with
  | d y =>
    cases y with
    | dict ds =>
      cases e
      have h' : Rep F v (.dict kvs) := h
      cases h' with
      | dct f _ _ k r => exact ⟨_, rfl, .inl ⟨_, .inr ⟨_, x.sub _ _ f⟩, k, r⟩⟩
      | dctT f _ _ k _ r => exact ⟨_, rfl, .inr ⟨_, .inr ⟨_, x.sub _ _ f⟩, k, r⟩⟩
      | dctR f y l z rk rv =>
        exact (od.no z).elim
    | _ => cases e
  | nd ds => cases e; obtain ⟨p, rfl, d, _⟩ := h; exact ⟨p, rfl, d.r od⟩
  | o k =>
    obtain ⟨p, ps, rfl, hk⟩ := h
    unfold dvw at e
    simp only at e
    split at e
    · rename_i ds hx
      cases e
      obtain ⟨q, e1, hq⟩ := own_at x hk hx
      cases e1
      exact ⟨p, rfl, hq.r od⟩
    · rename_i o ds hx
      cases e
      obtain ⟨q, e1, hq⟩ := own_at x hk hx
      cases e1
      exact ⟨p, rfl, hq.r⟩
    · cases e
  | nl _ => cases e
  | v _ => cases e
  | er _ => cases e
end
def DGetA (H : Hp) (a : Addr) (y : V) (o : Option V) : Prop := DGet H a y o ∨
  (o = none ∧ ((∃ k : Key, y = kV k) ∨ ∃ (k : List Key) (b : Addr), y = .ref b ∧ H b = some (.tup (k.map kV))) ∧ (Rd H a (.dK []) ∨ Rd H a (.dT [])))
section
variable {X : Cx} {pins : List (Addr × Obj)} {σ : Sgm} {H : Hp} {s : Shared} {a : Addr} {y d : V} {u r : Value} {o : Option V} {A : Around} {E : Value → Shared → Prop}
theorem dict_empty (I : L2.Inv X pins σ H s) (e : Rd H a (.dK []) ∨ Rd H a (.dT [])) : (a == sysModules) = false ∧ s.heap.DictOf (mixKind X.prog X.w) a [] ∧ s.heap.DictOfH (tupleKind (mixKind X.prog X.w)) a [] := by
  rcases e with e | e
  · obtain ⟨_, hd, vs, rel, dd⟩ := dk_rd I.hok e
    cases rel
    obtain ⟨ob, es, ep, h1, h2, h3, h4, h5, h6⟩ := id dd
    have he : es.toList = [] := by
      generalize es.toList = l at h5
      cases h5; rfl
    exact ⟨hd, dd, ob, es, ep, h1, h2, h3, he, (fun x hx => nomatch hx), List.nodup_nil⟩
  · obtain ⟨_, hd, xs, rel, dd⟩ := dt_rd I.hok e
    cases rel
    obtain ⟨ob, es, ep, h1, h2, h3, h4, h5, h6⟩ := id dd
    refine ⟨hd, ⟨ob, es, ep, h1, h2, h3, fun e he => ?_, ?_, List.nodup_nil⟩, dd⟩
    · have : e ∈ es.toList := Array.mem_toList_iff.mpr he
      rw [h4] at this; exact nomatch this
    · rw [h4]; exact .nil
theorem ask (I : L2.Inv X pins σ H s) (g : DGetA H a y o) (ry : RelV y u) : (a == sysModules) = false ∧ s.TypeIs (.ref a) "dict" ∧
    ((∃ vs k, (mixKind X.prog X.w).is k u = true ∧ s.heap.DictOf (mixKind X.prog X.w) a vs ∧ RelO o (valueAt vs k)) ∨
      ∃ xs k b, u = .ref b ∧ (tupleKind (mixKind X.prog X.w)).is s.heap k b ∧ s.heap.DictOfH (tupleKind (mixKind X.prog X.w)) a xs ∧ RelO o ((atKey xs k).map (·.2))) := by
  rcases g with (⟨kvs, k, e, ey, l⟩ | ⟨kvs, k, b, e, ey, eb, l⟩) | ⟨eo, ky, e⟩
  · subst ey
    obtain ⟨z, hd, vs, rel, dd⟩ := dk_rd I.hok e
    exact ⟨hd, dd.typeIs, .inl ⟨vs, k, kV_is ry, dd, by rw [l]; exact rel.val k⟩⟩
  · subst ey
    cases (show u = Value.ref b from ry)
    obtain ⟨z, hd, xs, rel, dd⟩ := dt_rd I.hok e
    exact ⟨hd, dd.typeIs, .inr ⟨xs, k, b, rfl, key_of I.hok eb, dd, by rw [l]; exact rel.val k⟩⟩
  · subst eo
    obtain ⟨hd, d1, d2⟩ := dict_empty I e
    rcases ky with ⟨k, rfl⟩ | ⟨k, b, rfl, eb⟩
    · exact ⟨hd, d1.typeIs, .inl ⟨[], k, kV_is ry, d1, trivial⟩⟩
    · cases (show u = Value.ref b from ry)
      exact ⟨hd, d1.typeIs, .inr ⟨[], k, b, rfl, key_of I.hok eb, d2, trivial⟩⟩
theorem isSome_rel {o : Option V} {w : Option Value} (r : RelO o w) : o.isSome = w.isSome := r.isSome_eq
def rInDc (neg : Bool) : R2 := fun y x H Q => ∃ a o, x = .ref a ∧ DGetA H a y o ∧ Q (.bl (if neg = true then !o.isSome else o.isSome)) H
theorem op_inDc (hu : X.A.units + 200 < cLine) : OpR X (compareOp .In) (rInDc false) := by
  intro pins s σ H y x u v Q I ry rx h
  obtain ⟨a, o, rfl, g, q⟩ := h
  obtain rfl : v = Value.ref a := rx
  obtain ⟨hd, _, c⟩ := ask I g ry
  rcases c with ⟨vs, k, hk, dd, rel⟩ | ⟨xs, k, b, rfl, hk, dd, rel⟩
  · refine wpAny_in_of hk hd dd.mapOf ?_
    rw [← isSome_rel rel]
    exact ⟨.bl o.isSome, H, I.tok _, rfl, q⟩
  · refine wpAny_in_heap (tupleKind_room_in1 (show X.A.units + 1 < cLine by omega)) hk hd dd ?_
    have z := isSome_rel rel
    rw [Option.isSome_map] at z
    rw [← z]
    exact ⟨.bl o.isSome, H, I.tok _, rfl, q⟩
theorem op_notinDc (hu : X.A.units + 200 < cLine) : OpR X (compareOp .NotIn) (rInDc true) := by
  intro pins s σ H y x u v Q I ry rx h
  obtain ⟨a, o, rfl, g, q⟩ := h
  obtain rfl : v = Value.ref a := rx
  obtain ⟨hd, _, c⟩ := ask I g ry
  rcases c with ⟨vs, k, hk, dd, rel⟩ | ⟨xs, k, b, rfl, hk, dd, rel⟩
  · refine wpAny_notIn_of hk hd dd.mapOf ?_
    rw [← isSome_rel rel]
    exact ⟨.bl (!o.isSome), H, I.tok _, rfl, q⟩
  · refine wpAny_notIn_heap (tupleKind_room_in1 (show X.A.units + 1 < cLine by omega)) hk hd dd ?_
    have z := isSome_rel rel
    rw [Option.isSome_map] at z
    rw [← z]
    exact ⟨.bl (!o.isSome), H, I.tok _, rfl, q⟩
def rIxDc : R2 := fun x y H Q => ∃ a v, x = .ref a ∧ DGetA H a y (some v) ∧ Q v H
theorem ix_dc (hu : X.A.units + 200 < cLine) : IxR X rIxDc := by
  intro value slice pins s σ H x y v u Q I rx ry h hs
  obtain ⟨a, z, rfl, g, q⟩ := h
  obtain rfl : v = Value.ref a := rx
  obtain ⟨hd, ty, c⟩ := ask I g ry
  refine tail_any ty PySem.F.slot_dict_getitem.lookup ?_ hs
  rcases c with ⟨vs, k, hk, dd, rel⟩ | ⟨xs, k, b, rfl, hk, dd, rel⟩
  · obtain ⟨w', hw, rw'⟩ := RelO.some_of (v := z) (o := valueAt vs k) rel
    exact wpAny_getItem_of hk dd.mapOf hw ⟨z, H, I.tok _, rw', q⟩
  · obtain ⟨w', hw, rw'⟩ := RelO.some_of (v := z) (o := (atKey xs k).map (·.2)) rel
    obtain ⟨p, hp, hp2⟩ := Option.map_eq_some_iff.mp hw
    refine wpAny_getItem_heap (tupleKind_room_in1 (show X.A.units + 1 < cLine by omega)) hk dd hp ?_
    rw [hp2]
    exact ⟨z, H, I.tok _, rw', q⟩
theorem d_get1A {Q : Value → Shared → Prop} (hu : A.units + 1 < cLine) (I : L2.Inv X pins σ H s) (g : DGetA H a y o) (ry : RelV y u) (h : ∀ w' s', L2.Inv X pins σ H s' → RelV (o.getD .non) w' → Q w' s') :
    wpAny (model X.prog X.w) A (call (.builtin "dict.get") [.ref a, u]) Q E s := by
  obtain ⟨hd, ty, c⟩ := ask I g ry
  rcases c with ⟨vs, k, hk, dd, rel⟩ | ⟨xs, k, b, rfl, hk, dd, rel⟩
  · exact call_meetsIn PySem.F.slot_dict_get ty PySem.F.entry_dict_get (PySem.F.args_dict_get_2 _ _) (meets_dict_get (mixKind X.prog X.w) a hk hd) ⟨_, dd.mapOf, h _ _ (I.tok _) (rel.getD rfl)⟩
  · exact call_meetsIn PySem.F.slot_dict_get ty PySem.F.entry_dict_get (PySem.F.args_dict_get_2 _ _) (meetsH_dict_get (tupleKind (mixKind X.prog X.w)) a b hd) ⟨tupleKind_room_in1 hu, k, xs, hk, dd, h _ _ (I.tok _) (rel.getD rfl)⟩
theorem d_get2A {Q : Value → Shared → Prop} (hu : A.units + 1 < cLine) (I : L2.Inv X pins σ H s) (g : DGetA H a y o) (ry : RelV y u) (rd : RelV d r) (h : ∀ w' s', L2.Inv X pins σ H s' → RelV (o.getD d) w' → Q w' s') :
    wpAny (model X.prog X.w) A (call (.builtin "dict.get") [.ref a, u, r]) Q E s := by
  obtain ⟨hd, ty, c⟩ := ask I g ry
  rcases c with ⟨vs, k, hk, dd, rel⟩ | ⟨xs, k, b, rfl, hk, dd, rel⟩
  · exact call_meetsIn PySem.F.slot_dict_get ty PySem.F.entry_dict_get (PySem.F.args_dict_get_3 _ _ _) (meets_dict_get_default (mixKind X.prog X.w) a hk hd r) ⟨_, dd.mapOf, h _ _ (I.tok _) (rel.getD rd)⟩
  · exact call_meetsIn PySem.F.slot_dict_get ty PySem.F.entry_dict_get (PySem.F.args_dict_get_3 _ _ _) (meetsH_dict_get_default (tupleKind (mixKind X.prog X.w)) a b hd r) ⟨tupleKind_room_in1 hu, k, xs, hk, dd, h _ _ (I.tok _) (rel.getD rd)⟩
def DPutA (H : Hp) (a : Addr) (y v : V) (H' : Hp) : Prop := DPut H a y v H' ∨
  ((H a = some (.dK []) ∨ H a = some (.dT [])) ∧ ((∃ k : Key, y = kV k ∧ H' = upd H a (.dK [(k, v)])) ∨ ∃ (k : List Key) (b : Addr), y = .ref b ∧ H b = some (.tup (k.map kV)) ∧ H' = upd H a (.dT [(k, v)])))
theorem d_setItemA {H' : Hp} {Q : Unit → Shared → Prop} (hu : A.units + 1 < cLine) (I : L2.Inv X pins σ H s) (g : DPutA H a y v H') (ry : RelV y u) (rv : RelV v r) (h : ∀ s', L2.Inv X pins σ H' s' → Q () s') :
    wpAny (model X.prog X.w) A (setItem (.ref a) u r) Q E s := by
  rcases g with g | ⟨e, g⟩
  · exact d_setItem hu I g ry rv h
  · obtain ⟨hd, d1, d2⟩ := dict_empty I (e.imp .inl .inl)
    have mu : Mut (H a) := by rcases e with e | e <;> rw [e] <;> trivial
    rcases g with ⟨k, ey, eH⟩ | ⟨k, b, ey, eb, eH⟩
    · subst ey eH
      refine wpAny_setItem_pairs (hsz := Nat.zero_le _) (kV_is ry) d1 fun h' dd' hs => h _ ?_
      have he : ∃ q, h'.get? a = some q := let ⟨q, _, _, hq, _⟩ := dd'; ⟨q, hq⟩
      exact d_write I mu hs he (dk_new (by show 1 ≤ sizeLine; decide) hd ((KV.put (.nil : KV (κ := Key) [] []) k rv)) dd')
    · subst ey eH
      cases (show u = Value.ref b from ry)
      refine wpAny_setItem_heap (hsz := Nat.zero_le _) (tupleKind_room_in1 hu) (key_of I.hok eb) d2 fun h' dd' hs => h _ ?_
      obtain ⟨q, es, ep, hq, h2, h3, h4, _, h5⟩ := dd'
      refine d_write I mu hs ⟨q, hq⟩ ⟨by show 1 ≤ sizeLine; decide, hd, _, (KT.put (H := H) (.nil : KT H [] []) k eb rv).keeps fun c ys ec => ?_, q, es, ep, hq, h2, h3, h4, h5⟩
      rw [upd_ne (fun z => by rw [z] at ec; rcases e with e | e <;> rw [e] at ec <;> cases ec)]
      exact ec
end
end DL
namespace DL
open PySem PySem.Spec PyProof.Rows L2
section
variable {a : AS} {σ : Sgm} {F H : Hp} {fps : List (List Addr)}
theorem isKT_keyD (k : Key) : isKT (keyD k) = false := by cases k <;> rfl
theorem isK_tup (xs : List D) : isK (.tuple xs) = false := rfl
theorem none_of_keys {κ : Type} {f : κ → D} {p : D → Bool} (hf : ∀ k, p (f k) = false) {ks : List (κ × V)} {kvs : List (D × D)} (e : kvs.map (·.1) = ks.map (fun k => f k.1)) (h : ∀ q ∈ kvs, p q.1 = true) : kvs = [] ∧ ks = [] := by
  cases ks with
  | nil => cases kvs with
    | nil => exact ⟨rfl, rfl⟩
    | cons _ _ => simp at e
  | cons k ks => cases kvs with
    | nil => simp at e
    | cons q kvs =>
      simp only [List.map_cons, List.cons.injEq] at e
      have := h q (List.mem_cons_self ..)
      rw [e.1, hf] at this; cases this
theorem ask_rep (x : AOk a σ F H fps) {rx ry : Ev} {vx vy : V} {kd : D} {kvs : List (D × D)} (hx : ValOk F H fps rx vx) (ex : vw a rx = some kd) (hy : ValOk F H fps ry vy) (ey : dvw a ry = some kvs) (ko : KeyOk kvs kd) :
    ∃ p o, vy = .ref p ∧ DGetA H p vx o ∧ RepO F o (dlook kvs kd) := by
  obtain ⟨p, rfl, d⟩ := dvw_at x hy ey ko.keys
  rcases ko with ⟨k1, k2⟩ | ⟨k1, k2⟩
  · obtain ⟨k, rfl⟩ := isK_of k1
    obtain rfl : vx = kV k := key_kV (vw_rep x hx ex)
    rcases d with ⟨ks, e, m, r⟩ | ⟨ks, e, m, r⟩
    · exact ⟨p, _, rfl, .inl (.inl ⟨ks, k, e, rfl, rfl⟩), look_rep eqv_key m r k⟩
    · obtain ⟨rfl, rfl⟩ := none_of_keys (p := isK) (fun k => isK_tup _) m k2
      exact ⟨p, none, rfl, .inr ⟨rfl, .inl ⟨k, rfl⟩, .inr e⟩, trivial⟩
  · obtain ⟨k, rfl⟩ := isKT_of k1
    obtain ⟨b, vs, rfl, _, hb, rb⟩ := vw_tup x hx ex
    have := keys_kV rb
    subst this
    rcases d with ⟨ks, e, m, r⟩ | ⟨ks, e, m, r⟩
    · obtain ⟨rfl, rfl⟩ := none_of_keys (p := isKT) isKT_keyD m k2
      exact ⟨p, none, rfl, .inr ⟨rfl, .inr ⟨k, b, rfl, hb⟩, .inl e⟩, trivial⟩
    · exact ⟨p, _, rfl, .inl (.inr ⟨ks, k, b, e, rfl, hb, rfl⟩), look_rep eqv_keys m r k⟩
theorem RepO.some {o : Option V} {z : D} (h : RepO F o (some z)) : ∃ v, o = some v ∧ Rep F v z := by
  cases o with
  | none => exact h.elim
  | some v => exact ⟨v, rfl, h⟩
theorem RepO.isSome {o : Option V} {z : Option D} (h : RepO F o z) : o.isSome = z.isSome := by
  cases o <;> cases z <;> first | rfl | exact h.elim
end
def rInA (neg : Bool) : R2 := fun x y H Q => rInD neg x y H Q ∨ rInDc neg x y H Q
def gInA (neg : Bool) : G2 := fun a x y K => match dvw a y with
  | some kvs => ∃ kd, vw a x = some kd ∧ KeyOk kvs kd ∧ K (.d (.bool (if neg = true then !(dlook kvs kd).isSome else (dlook kvs kd).isSome)))
  | none => gIn neg a x y K
theorem r2_inA {neg : Bool} : R2S (rInA neg) (gInA neg) := by
  intro a σ F H fps x y v u ok hx hy Kz k Q q
  unfold gInA at k
  cases e : dvw a y with
  | none => rw [e] at k; exact .inl (r2_in a σ F H fps x y v u ok hx hy Kz k Q q)
  | some kvs =>
    rw [e] at k
    obtain ⟨kd, ex, ko, kk⟩ := k
    obtain ⟨p, o, rfl, g, ro⟩ := ask_rep ok hx ex hy e ko
    refine .inr ⟨p, o, rfl, g, ?_⟩
    rw [ro.isSome]
    exact q _ _ F H kk ok (Le.refl _ _ _) (.bl _) trivial
theorem OpR.or2 {X : Cx} {f : Value → Value → Sem Value} {r r' : R2} (h : OpR X f r) (h' : OpR X f r') : OpR X f (fun x y H Q => r x y H Q ∨ r' x y H Q) := by
  intro pins s σ H x y v u Q I rx ry q
  rcases q with q | q
  · exact h pins s σ H x y v u Q I rx ry q
  · exact h' pins s σ H x y v u Q I rx ry q
section
variable {X : Cx}
theorem d_inA (hu : X.A.units + 200 < cLine) : OpR X (compareOp .In) (rInA false) ∧ R2S (rInA false) (gInA false) := ⟨OpR.or2 (d_in hu).1 (op_inDc hu), r2_inA⟩
theorem d_notinA (hu : X.A.units + 200 < cLine) : OpR X (compareOp .NotIn) (rInA true) ∧ R2S (rInA true) (gInA true) := ⟨OpR.or2 (d_notin hu).1 (op_notinDc hu), r2_inA⟩
def rIxA : R2 := fun x y H Q => rIxS2 x y H Q ∨ rIxDc x y H Q
def gIxA : G2 := fun a x y K => match dvw a x with
  | some kvs => ∃ kd z, vw a y = some kd ∧ KeyOk kvs kd ∧ dlook kvs kd = some z ∧ K (.d z)
  | none => gIx a x y K
theorem d_ixA (hu : X.A.units + 200 < cLine) : IxR X rIxA ∧ R2S rIxA gIxA := ⟨d_ix.1.or (ix_dc hu), by
  intro a σ F H fps x y v u ok hx hy Kz k Q q
  unfold gIxA at k
  cases e : dvw a x with
  | none => rw [e] at k; exact .inl ((d_ix (X := X)).2 a σ F H fps x y v u ok hx hy Kz k Q q)
  | some kvs =>
    rw [e] at k
    obtain ⟨kd, z, ey, ko, ez, kk⟩ := k
    obtain ⟨p, o, rfl, g, ro⟩ := ask_rep ok hy ey hx e ko
    rw [ez] at ro
    obtain ⟨w', rfl, rw'⟩ := ro.some
    exact .inr ⟨p, w', rfl, g, q _ _ F H kk ok (Le.refl _ _ _) rw' trivial⟩⟩
variable {E : XK} {o e f : Expr} {apos cpos : Pos} {td ty tx : TE} {wd wy wx : WE}
def tGet1 (td ty : TE) : TE := fun σ H Q => td σ H fun x H1 => ∃ a, x = .ref a ∧ IsD H1 a ∧ ty σ H1 fun y H2 => ∃ o, DGetA H2 a y o ∧ Q (o.getD .non) H2
def tGet2 (td ty tx : TE) : TE := fun σ H Q => td σ H fun x H1 => ∃ a, x = .ref a ∧ IsD H1 a ∧ ty σ H1 fun y H2 => tx σ H2 fun z H3 => ∃ o, DGetA H3 a y o ∧ Q (o.getD z) H3
theorem pe_get1 (hu : X.A.units + 200 < cLine) (ho : PE X o td) (he : PE X e ty) (m : M1 X o "get" apos e cpos) : PE X (.Call (.Attribute o "get" apos) [e] [] cpos) (tGet1 td ty) := by
  refine ⟨fun pins s σ H Q I h => ?_⟩
  refine wpAny_Call_method m.base m.few m.line PySem.F.plainAttrs_dict PySem.F.slot_dict_get PySem.F.type_dict_get (thn (ho.run pins s σ H _ I h) fun u s1 ⟨x, H1, I1, rx, a, ex, d, q1⟩ => ?_)
  subst ex
  obtain rfl : u = Value.ref a := rx
  obtain ⟨t1, t2, _⟩ := isD_at I1 d
  refine ⟨t1, t2, ?_⟩
  rw [m.trees]
  refine Calls.callWith_builtin rfl (Calls.evalArgs_plain (Calls.spliced_cons (thn (he.run pins s1 σ H1 _ I1 q1) fun iv s2 ⟨y, H2, I2, ry, ov, g, q2⟩ => Calls.spliced_nil ?_)))
  exact d_get1A (show X.A.units + 1 < cLine by omega) I2 g ry fun w' s3 I3 rw' => ⟨_, H2, I3, rw', q2⟩
theorem pe_get2 (hu : X.A.units + 200 < cLine) (ho : PE X o td) (he : PE X e ty) (hf : PE X f tx) (m : M2 X o "get" apos e f cpos) : PE X (.Call (.Attribute o "get" apos) [e, f] [] cpos) (tGet2 td ty tx) := by
  refine ⟨fun pins s σ H Q I h => ?_⟩
  refine wpAny_Call_method m.base m.few m.line PySem.F.plainAttrs_dict PySem.F.slot_dict_get PySem.F.type_dict_get (thn (ho.run pins s σ H _ I h) fun u s1 ⟨x, H1, I1, rx, a, ex, d, q1⟩ => ?_)
  subst ex
  obtain rfl : u = Value.ref a := rx
  obtain ⟨t1, t2, _⟩ := isD_at I1 d
  refine ⟨t1, t2, ?_⟩
  rw [m.trees]
  refine Calls.callWith_builtin rfl (Calls.evalArgs_plain (Calls.spliced_cons (thn (he.run pins s1 σ H1 _ I1 q1) fun iv s2 ⟨y, H2, I2, ry, q2⟩ =>
    Calls.spliced_cons (thn (hf.run pins s2 σ H2 _ I2 q2) fun fv s3 ⟨z, H3, I3, rz, ov, g, q3⟩ => Calls.spliced_nil ?_))))
  exact d_get2A (show X.A.units + 1 < cLine by omega) I3 g ry rz fun w' s4 I4 rw' => ⟨_, H3, I4, rw', q3⟩
theorem DcR.is {F H : Hp} {p : Addr} {kvs : List (D × D)} (d : DcR F H p kvs) : IsD H p := d.imp (fun ⟨ks, e, _⟩ => ⟨ks, e⟩) fun ⟨ks, e, _⟩ => ⟨ks, e⟩
def wGet1 (wd wy : WE) : WE := fun a K B => wd a (fun x a1 => (∃ kvs, dvw a1 x = some kvs ∧ KeysOk kvs) ∧ wy a1 (fun y a2 => ∃ kvs kd, dvw a2 x = some kvs ∧ vw a2 y = some kd ∧ KeyOk kvs kd ∧ K (.d ((dlook kvs kd).getD .none)) a2) B) B
def evOr (o : Option D) (z : Ev) : Ev := match o with
  | some d => .d d
  | none => z
def wGet2 (wd wy wx : WE) : WE := fun a K B => wd a (fun x a1 => (∃ kvs, dvw a1 x = some kvs ∧ KeysOk kvs) ∧ wy a1 (fun y a2 => wx a2 (fun z a3 => ∃ kvs kd, dvw a3 x = some kvs ∧ vw a3 y = some kd ∧ KeyOk kvs kd ∧ K (evOr (dlook kvs kd) z) a3) B) B) B
theorem de_get1 (hu : X.A.units + 200 < cLine) (ho : DE X E o td wd) (he : DE X E e ty wy) (m : M1 X o "get" apos e cpos) : DE X E (.Call (.Attribute o "get" apos) [e] [] cpos) (tGet1 td ty) (wGet1 wd wy) := ⟨pe_get1 hu ho.pe he.pe m, by
  intro a K B k σ F H fps x Q q b
  refine ho.so a _ B k σ F H fps x _ (fun r1 a1 v1 F1 H1 ⟨⟨kv0, d0, ok0⟩, k1⟩ n1 x1 l1 o1 w1 => ?_) b
  obtain ⟨p, rfl, dr⟩ := dvw_at x1 o1 d0 ok0
  refine ⟨p, rfl, dr.is, ?_⟩
  refine he.so a1 _ B k1 σ F1 H1 fps x1 _ (fun r2 a2 v2 F2 H2 ⟨kvs, kd, e1, e2, ko, k2⟩ n2 x2 l2 o2 w2 => ?_) (by rw [n1]; exact b.le l1)
  obtain ⟨p', o, ep, g, ro⟩ := ask_rep x2 o2 e2 (o1.le l2) e1 ko
  cases ep
  refine ⟨o, g, ?_⟩
  refine q _ a2 _ F2 H2 k2 (n2.trans n1) x2 (l1.trans l2) ?_ trivial
  cases o with
  | none => cases hz : dlook kvs kd with
    | none => exact .non
    | some z => rw [hz] at ro; exact ro.elim
  | some v => cases hz : dlook kvs kd with
    | none => rw [hz] at ro; exact ro.elim
    | some z => rw [hz] at ro; exact ro⟩
theorem de_get2 (hu : X.A.units + 200 < cLine) (ho : DE X E o td wd) (he : DE X E e ty wy) (hf : DE X E f tx wx) (m : M2 X o "get" apos e f cpos) : DE X E (.Call (.Attribute o "get" apos) [e, f] [] cpos) (tGet2 td ty tx) (wGet2 wd wy wx) := ⟨pe_get2 hu ho.pe he.pe hf.pe m, by
  intro a K B k σ F H fps x Q q b
  refine ho.so a _ B k σ F H fps x _ (fun r1 a1 v1 F1 H1 ⟨⟨kv0, d0, ok0⟩, k1⟩ n1 x1 l1 o1 w1 => ?_) b
  obtain ⟨p, rfl, dr⟩ := dvw_at x1 o1 d0 ok0
  refine ⟨p, rfl, dr.is, ?_⟩
  refine he.so a1 _ B k1 σ F1 H1 fps x1 _ (fun r2 a2 v2 F2 H2 k2 n2 x2 l2 o2 w2 => ?_) (by rw [n1]; exact b.le l1)
  refine hf.so a2 _ B k2 σ F2 H2 fps x2 _ (fun r3 a3 v3 F3 H3 ⟨kvs, kd, e1, e2, ko, k3⟩ n3 x3 l3 o3 w3 => ?_) (by rw [n2, n1]; exact b.le (l1.trans l2))
  obtain ⟨p', o, ep, g, ro⟩ := ask_rep x3 (o2.le l3) e2 (o1.le (l2.trans l3)) e1 ko
  cases ep
  refine ⟨o, g, ?_⟩
  refine q _ a3 _ F3 H3 k3 (n3.trans (n2.trans n1)) x3 ((l1.trans l2).trans l3) ?_ ?_
  · cases o with
    | none => cases hz : dlook kvs kd with
      | none => exact o3
      | some z => rw [hz] at ro; exact ro.elim
    | some v => cases hz : dlook kvs kd with
      | none => rw [hz] at ro; exact ro.elim
      | some z => rw [hz] at ro; exact ro
  · cases o with
    | none => cases hz : dlook kvs kd with
      | none => exact w3.back (l1.trans l2)
      | some z => rw [hz] at ro; exact ro.elim
    | some v => cases hz : dlook kvs kd with
      | none => rw [hz] at ro; exact ro.elim
      | some z => trivial⟩
variable {i value : Expr} {pos pos' : Pos} {tv : TE} {wv : WE}
def sPut (td ty tv : TE) : TS := fun D σ H => tv σ H fun v H1 => td σ H1 fun x H2 => ty σ H2 fun y H3 => ∃ a H4, x = .ref a ∧ DPutA H3 a y v H4 ∧ D.nx σ H4
theorem ps_put (hu : X.A.units + 200 < cLine) (ho : PE X o td) (hi : PE X i ty) (hv : PE X value tv) (hs : swapsWith value (some (.Subscript o i pos')) pos.line X.env = pure false) :
    PS X (.Assign [.Subscript o i pos'] value pos) (sPut td ty tv) := by
  refine ⟨fun pins s σ H D I h => ?_⟩
  refine wpAny_Assign_Subscript (thn (hv.run pins s σ H _ I h) fun r s1 ⟨v, H1, I1, rv, q1⟩ => thn (ho.run pins s1 σ H1 _ I1 q1) fun u s2 ⟨x, H2, I2, rx, q2⟩ => thn (hi.run pins s2 σ H2 _ I2 q2) fun iv s3 ⟨y, H3, I3, ry, a, H4, ex, g, q3⟩ => ?_) hs
  subst ex
  obtain rfl : u = Value.ref a := rx
  exact d_setItemA (show X.A.units + 1 < cLine by omega) I3 g ry rv fun s4 I4 => ⟨σ, H4, I4, q3⟩
def wPut (wd wy wv : WE) : WS := fun a D => wv a (fun r a1 => wd a1 (fun x a2 => wy a2 (fun y a3 => ∃ k kvs d kd, x = .o k ∧ a3.ow[k]? = some (.dc kvs) ∧ frz r = some d ∧ vw a3 y = some kd ∧ KeyOk kvs kd ∧ kvs.length ≤ 100000 ∧
  D.nx { a3 with ow := a3.ow.set k (.dc (dput kvs kd d)) }) D.xb) D.xb) D.xb
theorem put_own {a : AS} {σ : Sgm} {F H : Hp} {fps : List (List Addr)} (x : AOk a σ F H fps) {k : Nat} {p : Addr} {ps : List Addr} {kvs : List (D × D)} {kd d : D} {ry : Ev} {vy v : V} (hk : fps[k]? = some (p :: ps)) (e : a.ow[k]? = some (.dc kvs)) (hy : ValOk F H fps ry vy) (ey : vw a ry = some kd)
    (ko : KeyOk kvs kd) (hl : kvs.length ≤ 100000) (rv : Rep F v d) : ∃ ob, DPutA H p vy v (upd H p ob) ∧ DcOk F (upd H p ob) p (dput kvs kd d) ∧ fps[k]? = some [p] ∧ ∀ xs, ob ≠ .tup xs := by
  obtain ⟨p', e1, dc⟩ := x.own k _ _ hk e
  cases e1
  have hn := x.nf p (flat_mem hk (by simp))
  have hl2 : kvs.length < sizeLine := by rw [sizeLine_eq]; omega
  have noz := ko.keys.no
  rcases ko with ⟨k1, k2⟩ | ⟨k1, k2⟩
  · obtain ⟨key, rfl⟩ := isK_of k1
    obtain rfl : vy = kV key := key_kV (vw_rep x hy ey)
    rcases dc with ⟨ks, e, m, r⟩ | ⟨ks, e, m, r⟩ | ⟨_, _, _, _, _, z, _⟩
    · obtain ⟨m2, r2⟩ := put_rep eqv_key m r key rv
      refine ⟨.dK (putK ks key v), .inl (.inl ⟨ks, key, e, rfl, ?_, rfl⟩), .inl ⟨_, upd_same, m2, r2⟩, hk, fun _ z => nomatch z⟩
      have := congrArg List.length m; simp at this; omega
    · obtain ⟨rfl, rfl⟩ := none_of_keys (p := isK) (fun k => isK_tup _) m k2
      exact ⟨.dK [(key, v)], .inr ⟨.inr e, .inl ⟨key, rfl, rfl⟩⟩, .inl ⟨_, upd_same, rfl, .one rv⟩, hk, fun _ z => nomatch z⟩
    · exact (noz z).elim
  · obtain ⟨key, rfl⟩ := isKT_of k1
    obtain ⟨b, vs, rfl, _, hb, rb⟩ := vw_tup x hy ey
    have := keys_kV rb
    subst this
    rcases dc with ⟨ks, e, m, r⟩ | ⟨ks, e, m, r⟩ | ⟨_, _, _, _, _, z, _⟩
    · obtain ⟨rfl, rfl⟩ := none_of_keys (p := isKT) isKT_keyD m k2
      exact ⟨.dT [(key, v)], .inr ⟨.inl e, .inr ⟨key, b, rfl, hb, rfl⟩⟩, .inr (.inl ⟨_, upd_same, rfl, .one rv⟩), hk, fun _ z => nomatch z⟩
    · obtain ⟨m2, r2⟩ := put_rep (f := fun k => PyData.tuple (k.map keyD)) eqv_keys m r key rv
      refine ⟨.dT (putK ks key v), .inl (.inr ⟨ks, key, b, e, rfl, hb, ?_, rfl⟩), .inr (.inl ⟨_, upd_same, m2, r2⟩), hk, fun _ z => nomatch z⟩
      have := congrArg List.length m; simp at this; omega
    · exact (noz z).elim
theorem ds_put (hu : X.A.units + 200 < cLine) (ho : DE X E o td wd) (hi : DE X E i ty wy) (hv : DE X E value tv wv) (hs : swapsWith value (some (.Subscript o i pos')) pos.line X.env = pure false := by rfl) :
    DS X E (.Assign [.Subscript o i pos'] value pos) (sPut td ty tv) (wPut wd wy wv) := ⟨ps_put hu ho.pe hi.pe hv.pe hs, by
  intro a A k σ F H fps x D en
  refine hv.so a _ _ k σ F H fps x _ (fun r1 a1 v1 F1 H1 k1 n1 x1 l1 o1 w1 => ?_) (ends_b en)
  refine ho.so a1 _ _ k1 σ F1 H1 fps x1 _ (fun r2 a2 v2 F2 H2 k2 n2 x2 l2 o2 w2 => ?_) (by rw [n1]; exact (ends_b en).le l1)
  refine hi.so a2 _ _ k2 σ F2 H2 fps x2 _ (fun r3 a3 v3 F3 H3 ⟨j, kvs, d, kd, ex, ec, er, ey, ko, hl, k3⟩ n3 x3 l3 o3 w3 => ?_) (by rw [n2, n1]; exact (ends_b en).le (l1.trans l2))
  subst ex
  have o1' := (o1.le (l2.trans l3))
  obtain ⟨F4, f4, r4⟩ := freeze_one (H0 := H) x3 o1'.w w1 er
  obtain ⟨p, ps, rfl, hp⟩ := o2
  have nolist : ∀ xs : List PyData, kd = .list xs → False := fun xs z => by subst z; rcases ko with ⟨h, _⟩ | ⟨h, _⟩ <;> cases h
  have y3 : ValOk F4 H3 fps (.d kd) v3 := by
    cases r3 with
    | d y => cases ey; exact Rep.mono f4.sub o3
    | nl xs => exact (nolist xs (by cases ey; rfl)).elim
    | nd xs => cases ey
    | o m =>
      unfold vw at ey
      simp only at ey
      split at ey
      · rename_i xs hx
        exact (nolist xs (by cases ey; rfl)).elim
      · cases ey
    | v y => cases ey
    | er y => cases ey
  obtain ⟨ob, g, dc, hp1, nt⟩ := put_own f4.ok hp ec y3 rfl ko hl r4
  refine ⟨p, _, rfl, g, ?_⟩
  obtain ⟨x5, l5⟩ := f4.ok.setCell (o := ob) (c := .dc (dput kvs kd d)) hp1 ec ⟨p, rfl, dc⟩ nt
  exact en.nx _ σ F4 _ fps k3 x5 ((f4.le ((l1.trans l2).trans l3)).trans l5) rfl (n3.trans (n2.trans n1))⟩
end
end DL
namespace DL
open PySem PySem.Spec PyProof.Rows L2
section
variable {X : Cx} {pins : List (Addr × Obj)} {σ : Sgm} {H : Hp} {s : Shared} {a : Addr} {y v : V} {u r : Value} {E : Value → Shared → Prop}
theorem d_dictSetA {H' : Hp} {Q : Unit → Shared → Prop} (hu : X.A.units + 200 < cLine) (I : L2.Inv X pins σ H s) (g : DPutA H a y v H') (ry : RelV y u) (rv : RelV v r) (h : ∀ s', L2.Inv X pins σ H' s' → Q () s') :
    wpAny (model X.prog X.w) X.A (dictSet a u r) Q E s := by
  have room : (tupleKind (mixKind X.prog X.w)).room X.A := by
    show X.A.units < cLine
    omega
  rcases g with (⟨kvs, k, e, ey, l, eH⟩ | ⟨kvs, k, b, e, ey, eb, l, eH⟩) | ⟨e, g⟩
  · subst ey eH
    exact d_dictSet I e l ry rv h
  · subst ey eH
    cases (show u = Value.ref b from ry)
    obtain ⟨z, hd, xs, rel, dd⟩ := dt_of I.hok e
    have hl : (putK kvs k v).length ≤ sizeLine := by have := length_putK kvs k v; omega
    refine wpAny_dictSet_heap (hsz := by rw [← Paired.length rel]; exact z) room (key_of I.hok eb) dd fun h' dd' hs => h _ ?_
    obtain ⟨q, es, ep, hq, h2, h3, h4, _, h5⟩ := dd'
    refine d_write I (by rw [e]; exact True.intro) hs ⟨q, hq⟩ ⟨hl, hd, _, (rel.put k eb rv).keeps fun c ys ec => ?_, q, es, ep, hq, h2, h3, h4, h5⟩
    rw [upd_ne (ne_of ec e (fun z => nomatch z))]
    exact ec
  · obtain ⟨hd, d1, d2⟩ := dict_empty I (e.imp .inl .inl)
    have mu : Mut (H a) := by rcases e with e | e <;> rw [e] <;> trivial
    rcases g with ⟨k, ey, eH⟩ | ⟨k, b, ey, eb, eH⟩
    · subst ey eH
      refine wpAny_dictSet_pairs (hsz := Nat.zero_le _) (kV_is ry) d1 fun h' dd' hs => h _ ?_
      have he : ∃ q, h'.get? a = some q := let ⟨q, _, _, hq, _⟩ := dd'; ⟨q, hq⟩
      exact d_write I mu hs he (dk_new (by show 1 ≤ sizeLine; decide) hd ((KV.put (.nil : KV (κ := Key) [] []) k rv)) dd')
    · subst ey eH
      cases (show u = Value.ref b from ry)
      refine wpAny_dictSet_heap (hsz := Nat.zero_le _) room (key_of I.hok eb) d2 fun h' dd' hs => h _ ?_
      obtain ⟨q, es, ep, hq, h2, h3, h4, _, h5⟩ := dd'
      refine d_write I mu hs ⟨q, hq⟩ ⟨by show 1 ≤ sizeLine; decide, hd, _, (KT.put (H := H) (.nil : KT H [] []) k eb rv).keeps fun c ys ec => ?_, q, es, ep, hq, h2, h3, h4, h5⟩
      rw [upd_ne (fun z => by rw [z] at ec; rcases e with e | e <;> rw [e] at ec <;> cases ec)]
      exact ec
end
def tDcA (wi : TI) (g : TG) (tt : TT) (tk tv : TE) (vs : List Nat) : TE := fun σ H Q => wi σ H fun J H1 => ∀ D, H1 D = none → ∃ W : Nat → Nat → Hp → Prop, (∃ m, W 0 m (upd H1 D (.dK []))) ∧
  ∀ i m H, W i m H → (J.stop i H ∧ Q (.ref D) H) ∨ (J.go i H ∧ ∃ N : Hp → Prop, (∀ H', N H' → ∃ m', m' < m ∧ W (i + 1) m' H') ∧
    ∀ x H', J.yld i H x H' → g x (L2.wipe σ vs) H' fun σ2 H2 => L2.wipe σ2 vs = L2.wipe σ vs ∧ tt σ2 H2 fun b H3 =>
      if b = true then tk σ2 H3 fun y H4 => tv σ2 H4 fun z H5 => ∃ H6, DPutA H5 D y z H6 ∧ N H6 else N H3)
section
variable {X : Cx} {kx vx tg iter : Expr} {ifs : List Expr} {scope : Scope} {own : List (Str × Nat)} {pos : Pos} {wi : TI} {g : TG} {tt : TT} {tk tv : TE}
theorem dc_turns (hc : X.calm = true) (hu : X.A.units + 200 < cLine) {s3 s4 : Shared} {H3 : Hp} {ce : Env} {fp : List Addr} {tn : Nat → Heap → Prop} {J : It} {it D : Addr} {σ : Sgm} {R : Result → Shared → Prop} {Q : VK}
    (T : Turn X.prog X.w X.K tg J fp it tn) (I4 : L2.Inv (X.blk s3 H3 scope ce fp) [] (L2.wipe σ (own.map (·.2))) H3 s4) (st4 : tn 0 s4.heap) (nfp : ∀ b ∈ fp, H3 b = none)
    (pg : PG (X.blk s3 H3 scope ce fp) tg g) (pt : PTs (X.blk s3 H3 scope ce fp) ifs tt) (pk : PE (X.blk s3 H3 scope ce fp) kx tk) (pe : PE (X.blk s3 H3 scope ce fp) vx tv)
    {W : Nat → Nat → Hp → Prop} {m0 : Nat} (w0 : W 0 m0 H3)
    (turn : ∀ i m H, W i m H → (J.stop i H ∧ Q (.ref D) H) ∨ (J.go i H ∧ ∃ N : Hp → Prop, (∀ H', N H' → ∃ m', m' < m ∧ W (i + 1) m' H') ∧
      ∀ x H', J.yld i H x H' → g x (L2.wipe σ (own.map (·.2))) H' fun σ2 H2 => L2.wipe σ2 (own.map (·.2)) = L2.wipe σ (own.map (·.2)) ∧ tt σ2 H2 fun b H3 =>
        if b = true then tk σ2 H3 fun y H4 => tv σ2 H4 fun z H5 => ∃ H6, DPutA H5 D y z H6 ∧ N H6 else N H3))
    (out : ∀ s6 H5, L2.Inv (X.blk s3 H3 scope ce fp) [] (L2.wipe σ (own.map (·.2))) H5 s6 → Q (.ref D) H5 → R (.ok .next) s6) :
    codeAny (model X.prog X.w) X.A (.compLoop (.DictComp kx vx [⟨tg, iter, ifs, 0⟩] scope pos) 0 (.ref it) (.ref D) ce) R s4 := by
  have stat : ∀ {σ' : Sgm} {H' : Hp} {s' : Shared}, L2.Inv (X.blk s3 H3 scope ce fp) [] σ' H' s' → (∀ b ∈ fp, H' b = none) → ∀ b ∈ fp, FpOk (X.blk s3 H3 scope ce fp) [] H' b :=
    fun {σ' H' s'} J' hn b hb => ⟨hn b hb, (J'.ok.exf b hb).1, J'.ok.exfs b hb, .inl hb, fun x c e => (J'.ok.exf b hb).2 x c e, fun p hp => absurd hp (by simp)⟩
  refine compLoop_anyD (fun n s' => ∃ i H', L2.Inv (X.blk s3 H3 scope ce fp) [] (L2.wipe σ (own.map (·.2))) H' s' ∧ tn i s'.heap ∧ (∀ b ∈ fp, H' b = none) ∧ W i n H') ?_ m0 ⟨0, H3, I4, st4, nfp, w0⟩
  rintro n s5 ⟨i, H5, I5, st5, n5, w5⟩
  rcases turn i n H5 w5 with ⟨stop, qq⟩ | ⟨go, N, hN, step⟩
  · refine thnF (T.done (X.blk s3 H3 scope ce fp) rfl rfl rfl hc i [] s5 _ H5 (fun _ _ => False) I5 (stat I5 n5) st5 stop) fun r s6 ⟨hr, I6⟩ => ?_
    subst hr
    exact out s6 H5 I6 qq
  · refine thnF (T.item (X.blk s3 H3 scope ce fp) rfl rfl rfl hc i [] s5 _ H5 (fun _ _ => False) I5 (stat I5 n5) st5 go) fun r s6 ⟨u, hr, h6⟩ => ?_
    subst hr
    refine thnF h6 fun _ s7 ⟨x, H7, I7, r7, y7, st7, n7⟩ => ?_
    refine thnF (pg.run _ s7 _ H7 x u _ (I7.pinned (stat I7 n7) (T.obj _ _ st7)) r7 (step x H7 y7)) fun _ s8 ⟨σ8, H8, I8, hw8, q8⟩ => ?_
    refine thnF (pt.run _ s8 σ8 H8 _ I8 q8) fun b s9 ⟨H9, I9, q9⟩ => ?_
    have back : ∀ {s' : Shared} {H' : Hp}, L2.Inv (X.blk s3 H3 scope ce fp) ([] ++ pinsAt fp s7.heap) σ8 H' s' → N H' →
        ∃ m, m < n ∧ ∃ i H', L2.Inv (X.blk s3 H3 scope ce fp) [] (L2.wipe σ (own.map (·.2))) H' s' ∧ tn i s'.heap ∧ (∀ b ∈ fp, H' b = none) ∧ W i m H' := fun {s' H'} J' nx => by
      obtain ⟨m', hm, w'⟩ := hN H' nx
      have held : ∀ b ∈ fp, ∀ o, s7.heap.get? b = some o → s'.heap.get? b = some o ∧ H' b = none := fun b hb o e => by
        have z := J'.pin (b, o) (List.mem_append_right _ (List.mem_append_right _ (mem_pinsAt hb e)))
        exact ⟨z.1, z.2.1⟩
      refine ⟨m', hm, i + 1, H', (J'.unpinned (pins := [])).weak (by rw [← hw8, wipe_length]) (fun j v e => ?_), T.keep _ _ _ st7 fun b hb o e => (held b hb o e).1, fun b hb => ?_, w'⟩
      · rw [← hw8] at e
        exact (wipe_some e).1
      · obtain ⟨o, e, _⟩ := T.obj _ _ st7 b hb
        exact (held b hb o e).2
    cases b with
    | false =>
      rw [if_neg Bool.false_ne_true] at q9
      rw [if_neg Bool.false_ne_true]
      exact back I9 q9
    | true =>
      rw [if_pos rfl] at q9
      rw [if_pos rfl]
      refine thnF (pk.run _ s9 σ8 H9 _ I9 q9) fun z s10 ⟨yk, H10, I10, r10, q10⟩ => ?_
      refine thnF (pe.run _ s10 σ8 H10 _ I10 q10) fun z2 s11 ⟨yv, H11, I11, r11, H12, pu, nx⟩ => ?_
      exact d_dictSetA (X := X.blk s3 H3 scope ce fp) (show X.A.units + 200 < cLine from hu) I11 pu r10 r11 fun s12 I12 => back I12 nx
abbrev emptyDict : Obj := { cls := .type "dict", data := .dict #[] }
theorem dc_whole {pins : List (Addr × Obj)} {s : Shared} {σ : Sgm} {H : Hp} {Q : VK} {pos' : Pos} {use : Option (Value → Sem Unit)} {Qf : Value → Shared → Prop} (hc : X.calm = true) (hu : X.A.units + 200 < cLine) (hN : X.N.Nodup) (I : L2.Inv X pins σ H s) (hi : PI X tg iter wi) (ok : BlkOk X.N X.env.scope scope own)
    (hg : ∀ (s : Shared) (H : Hp) (C : Addr) (cl : List (Str × Addr)) (fp : List Addr), PG (X.blk s H scope (compEnvC scope cl C X.env) fp) tg g) (ht : ∀ (s : Shared) (H : Hp) (C : Addr) (cl : List (Str × Addr)) (fp : List Addr), PTs (X.blk s H scope (compEnvC scope cl C X.env) fp) ifs tt)
    (hk : ∀ (s : Shared) (H : Hp) (C : Addr) (cl : List (Str × Addr)) (fp : List Addr), PE (X.blk s H scope (compEnvC scope cl C X.env) fp) kx tk) (he : ∀ (s : Shared) (H : Hp) (C : Addr) (cl : List (Str × Addr)) (fp : List Addr), PE (X.blk s H scope (compEnvC scope cl C X.env) fp) vx tv) (hs : ∀ x, foldedSetIterable iter X.env x = pure x)
    (h : tDcA wi g tt tk tv (own.map (·.2)) σ H Q)
    (fin : ∀ D C s' m H', L2.Inv X pins σ H' s' → Q (.ref D) H' → s'.heap.Ns C m → FpOk X pins H' C → compPost (model X.prog X.w) X.A X.xe use Qf (.ref D) C (.ok .next) s') :
    wpAny (model X.prog X.w) X.A (comprehension (.DictComp kx vx [⟨tg, iter, ifs, 0⟩] scope pos) scope X.env pos' newDict false (eval iter X.env) use) Qf X.xe s := by
  have hfree : ∀ y ∈ scope.names, y.2 = .free → ∃ c, X.env.cells.lookup y.1 = some c := fun y hy e => (ok.free y hy e).elim (fun k => I.ok.has _ (.inl k)) fun k => I.ok.has _ (.inr k)
  refine wpAny_comprehension_free (use := use) rfl hs (closure_ok hfree) ok.kind (fun y hy e => by rw [ok.uniq y hy, e]) (thn (hi.run pins s σ H _ I h) fun xv s1 hx => thn hx fun itv s2 ⟨it, fp, tn, J, H2, e, I2, T, st2, f2, q⟩ => ?_)
  subst e
  refine wpAny_newObj_type (newEnv_comp ?_)
  have hDn : H2 s2.heap.objs.size = none := I2.hok.fresh (Nat.le_refl _)
  obtain ⟨W, ⟨m0, w0⟩, turn⟩ := q s2.heap.objs.size hDn
  have I3 : L2.Inv X pins σ (upd H2 s2.heap.objs.size (.dK [])) { s2 with heap := s2.heap.push emptyDict } :=
    I2.laid (t' := s2.toks) (fun b o e => Heap.get?_push_of_some _ e) (Nat.le_refl _) (dk_empty s2.heap I2.big)
  have f3 : ∀ b ∈ fp, FpOk X pins (upd H2 s2.heap.objs.size (.dK [])) b ∧ b < (s2.heap.push emptyDict).objs.size := fun b hb => by
    obtain ⟨o, e, _⟩ := T.obj _ _ st2 b hb
    have hlt : b < s2.heap.objs.size := Heap.lt_size e
    refine ⟨⟨?_, (f2 b hb).2⟩, by rw [Heap.size_push]; exact Nat.lt_succ_of_lt hlt⟩
    rw [upd_ne (Nat.ne_of_lt hlt)]
    exact (f2 b hb).1
  have st3 : tn 0 (s2.heap.push emptyDict) := T.keep _ _ _ st2 fun b _ o e => Heap.get?_push_of_some _ e
  generalize hH3 : upd H2 s2.heap.objs.size (.dK []) = H3 at *
  have nfp : ∀ b ∈ fp, H3 b = none := fun b hb => (f3 b hb).1.1
  have I4 := block_start I3 ok hN f3
  have st4 : tn 0 (pushCells ((s2.heap.push emptyDict).push { cls := .type "dict", data := .dict #[] }) scope.names) :=
    T.keep _ _ _ st3 fun b _ o e => pushCells_keeps _ _ _ _ (Heap.get?_push_of_some _ e)
  refine codeAny_compStart_dict ?_ (T.self X.A 0 _ _ _ st4 ?_)
  all_goals
    refine dc_turns hc hu T I4 st4 nfp (hg _ _ _ _ _) (ht _ _ _ _ _) (hk _ _ _ _ _) (he _ _ _ _ _) w0 turn fun s6 H5 I6 qq => ?_
    have I7 : L2.Inv X pins σ H5 s6 := I3.call' (ch := fp) I6.os I6.base I6.hok I6.bare fun b hb => ⟨(f3 b hb).1.2.2.2.1, (f3 b hb).1.2.1, (f3 b hb).1.2.2.2.2.1, (f3 b hb).1.2.2.2.2.2⟩
    have nC : H5 (s2.heap.push emptyDict).objs.size = none := I6.free
    obtain ⟨m, hn, _⟩ := I6.loc
    exact fin _ _ s6 m H5 I7 qq hn (I3.fpOk (Nat.le_refl _) nC)
theorem pe_dcA (hc : X.calm = true) (hu : X.A.units + 200 < cLine) (hN : X.N.Nodup) (hi : PI X tg iter wi) (ok : BlkOk X.N X.env.scope scope own)
    (hg : ∀ (s : Shared) (H : Hp) (C : Addr) (cl : List (Str × Addr)) (fp : List Addr), PG (X.blk s H scope (compEnvC scope cl C X.env) fp) tg g) (ht : ∀ (s : Shared) (H : Hp) (C : Addr) (cl : List (Str × Addr)) (fp : List Addr), PTs (X.blk s H scope (compEnvC scope cl C X.env) fp) ifs tt)
    (hk : ∀ (s : Shared) (H : Hp) (C : Addr) (cl : List (Str × Addr)) (fp : List Addr), PE (X.blk s H scope (compEnvC scope cl C X.env) fp) kx tk) (he : ∀ (s : Shared) (H : Hp) (C : Addr) (cl : List (Str × Addr)) (fp : List Addr), PE (X.blk s H scope (compEnvC scope cl C X.env) fp) vx tv)
    (hs : ∀ x, foldedSetIterable iter X.env x = pure x := by intro _; rfl) : PE X (.DictComp kx vx [⟨tg, iter, ifs, 0⟩] scope pos) (tDcA wi g tt tk tv (own.map (·.2))) := by
  refine ⟨fun pins s σ H Q I h => ?_⟩
  rw [arm_eval_DictComp]
  refine dc_whole hc hu hN I hi ok hg ht hk he hs h fun D C s' m H' I' q hn f => ?_
  obtain ⟨g0, g1, g2, g3, g4, g5⟩ := f
  exact ⟨m, hn, fun h'' sb => ⟨.ref D, H', I'.turned (t' := s'.toks) (fun b o hb e => (sb.2 b hb).trans e) g0 g1 g3 g4 g5, rfl, q⟩⟩
theorem ps_setDcA {i : Nat} {y : Str} {py spos : Pos} (lk : Bool) (hc : X.calm = true) (hu : X.A.units + 200 < cLine) (hN : X.N.Nodup) (hy : X.N[i]? = some y) (hyl : X.env.scope.names.lookup y = some .local)
    (hsw : swapsWith (.DictComp kx vx [⟨tg, iter, ifs, 0⟩] scope pos) (some (.Name y py)) spos.line X.env = pure true) (hi : PI X tg iter wi) (ok : BlkOk X.N X.env.scope scope own)
    (hg : ∀ (s : Shared) (H : Hp) (C : Addr) (cl : List (Str × Addr)) (fp : List Addr), PG (X.blk s H scope (compEnvC scope cl C X.env) fp) tg g) (ht : ∀ (s : Shared) (H : Hp) (C : Addr) (cl : List (Str × Addr)) (fp : List Addr), PTs (X.blk s H scope (compEnvC scope cl C X.env) fp) ifs tt)
    (hk : ∀ (s : Shared) (H : Hp) (C : Addr) (cl : List (Str × Addr)) (fp : List Addr), PE (X.blk s H scope (compEnvC scope cl C X.env) fp) kx tk) (he : ∀ (s : Shared) (H : Hp) (C : Addr) (cl : List (Str × Addr)) (fp : List Addr), PE (X.blk s H scope (compEnvC scope cl C X.env) fp) vx tv)
    (hs : ∀ x, foldedSetIterable iter X.env x = pure x := by intro _; rfl) :
    PS X (.Assign [.Name y py] (.DictComp kx vx [⟨tg, iter, ifs, 0⟩] scope pos) spos) (tAsg (if lk = true then tLk (tDcA wi g tt tk tv (own.map (·.2))) else tDcA wi g tt tk tv (own.map (·.2))) (gName i)) := by
  refine ⟨fun pins s σ H D I h => ?_⟩
  rw [exec_Assign_Name_used _ _ _ _ hsw]
  refine wpAny_bind (wpAny_standAt (wpAny_bind ?_))
  show wpAny _ X.A (do let _ ← comprehension (.DictComp kx vx [⟨tg, iter, ifs, 0⟩] scope pos) scope X.env (firstIterPos [⟨tg, iter, ifs, 0⟩] pos) newDict false (eval iter X.env) (some (assign (.Name y py) X.env))) _ _ s
  have h' : ∃ Q : VK, tDcA wi g tt tk tv (own.map (·.2)) σ H Q ∧ ∀ L H1 s', L2.Inv X pins σ H1 s' → Q (.ref L) H1 → ∃ H2, L2.Inv X pins σ H2 s' ∧ (∀ b, H2 b = none → H1 b = none) ∧ (∀ b, H1 b = none → H2 b = none) ∧ gName i (.ref L) σ H2 D.nx := by
    cases lk with
    | false => exact ⟨fun x H1 => gName i x σ H1 D.nx, h, fun L H1 s' I' q => ⟨H1, I', fun _ z => z, fun _ z => z, q⟩⟩
    | true =>
      refine ⟨fun v H1 => ∃ p u, v = .ref p ∧ H1 p = some u ∧ Mut (some u) ∧ ∀ od, Lkd H1 p od u → gName i v σ (upd H1 p (.frz od u)) D.nx, h, fun L H1 s' I' q => ?_⟩
      obtain ⟨p, u, e, hp, mu, q⟩ := q
      cases e
      obtain ⟨od, I2, lk⟩ := lockK I' hp mu
      refine ⟨_, I2, fun b z => ?_, fun b z => ?_, q od lk⟩
      · by_cases hb : b = L
        · subst hb; rw [upd_same] at z; cases z
        · rw [upd_ne hb] at z; exact z
      · rw [upd_ne (fun w => by rw [w, hp] at z; cases z)]; exact z
  obtain ⟨Q, h1, h2⟩ := h'
  refine wpAny_bind (thn (dc_whole (Qf := fun _ s' => SP X pins D .next s') hc hu hN I hi ok hg ht hk he hs h1 fun L C s' m H' I' q hn f => ?_) fun _ s' hq => wpAny_pure (wpAny_pure hq))
  show wpAny _ _ (assign (.Name y py) X.env (.ref L)) _ _ _
  obtain ⟨H2, I2, _, n2, q2⟩ := h2 L H' s' I' q
  refine wpAny_assign_Name (store_ok2 (v := V.ref L) I2 hN hy (.inl hyl) rfl (fun s2 I3 ⟨a, sb, ha⟩ => ?_) (.inr hyl))
  obtain ⟨f0, f1, f2, f3, f4, f5⟩ := f
  have haC : C ≠ a := ha.elim (fun z => by rw [z]; exact f1) fun z e => f4 y a z e.symm
  exact ⟨m, hn.sameBut sb haC, fun h3 sb3 => ⟨_, H2, I3.turned (t' := s2.toks) (fun b o hb e => (sb3.2 b hb).trans e) (n2 _ f0) f1 f3 f4 f5, q2⟩⟩
end
end DL
namespace DL
open PySem PySem.Spec PyProof.Rows L2
def wDc (w : WI) (wg : WG) (wt : WT) (wk wv : WE) (vs : List Nat) : WE := fun a K B => w a (fun xs a1 => xs.length ≤ 100000 ∧ ∃ I : Nat → List (D × D) → List Own → Prop, I 0 [] a1.ow ∧
  (∀ acc ow, I xs.length acc ow → K (.nd acc) { a1 with ow := ow }) ∧
  ∀ k x acc ow, xs[k]? = some x → I k acc ow → wg x { a1 with sl := wipeS a1.sl vs, ow := ow } (fun a3 => wt a3 (fun b a4 =>
    (b = true → wk a4 (fun rk a5 => wv a5 (fun rv a6 => ∃ kd d, rk = .d kd ∧ frz rv = some d ∧ KeyOk acc kd ∧ I (k + 1) (dput acc kd d) a6.ow) (fun _ _ => False)) (fun _ _ => False)) ∧ (b = false → I (k + 1) acc a4.ow)) (fun _ _ => False))) B
theorem dput_len (kvs : List (D × D)) (k v : D) : (dput kvs k v).length ≤ kvs.length + 1 := by
  unfold dput
  split
  · rw [List.length_map]; omega
  · rw [List.length_append]; simp
theorem put_new {F H : Hp} {p : Addr} {kvs : List (D × D)} {kd d : D} {vy v : V} (dc : DcOk F H p kvs) (sub : Sub F H) (hy : Rep F vy kd) (ko : KeyOk kvs kd) (hl : kvs.length ≤ 100000) (rv : Rep F v d) :
    ∃ ob, DPutA H p vy v (upd H p ob) ∧ DcOk F (upd H p ob) p (dput kvs kd d) ∧ ∀ xs, ob ≠ .tup xs := by
  have noz := ko.keys.no
  rcases ko with ⟨k1, k2⟩ | ⟨k1, k2⟩
  · obtain ⟨key, rfl⟩ := isK_of k1
    obtain rfl : vy = kV key := key_kV hy
    rcases dc with ⟨ks, e, m, r⟩ | ⟨ks, e, m, r⟩ | ⟨_, _, _, _, _, z, _⟩
    · obtain ⟨m2, r2⟩ := put_rep eqv_key m r key rv
      refine ⟨.dK (putK ks key v), .inl (.inl ⟨ks, key, e, rfl, ?_, rfl⟩), .inl ⟨_, upd_same, m2, r2⟩, fun _ z => nomatch z⟩
      have := congrArg List.length m; simp at this; rw [sizeLine_eq]; omega
    · obtain ⟨rfl, rfl⟩ := none_of_keys (p := isK) (fun k => isK_tup _) m k2
      exact ⟨.dK [(key, v)], .inr ⟨.inr e, .inl ⟨key, rfl, rfl⟩⟩, .inl ⟨_, upd_same, rfl, .one rv⟩, fun _ z => nomatch z⟩
    · exact (noz z).elim
  · obtain ⟨key, rfl⟩ := isKT_of k1
    cases hy with
    | @tup b vs _ hb rb =>
    have := keys_kV rb
    subst this
    rcases dc with ⟨ks, e, m, r⟩ | ⟨ks, e, m, r⟩ | ⟨_, _, _, _, _, z, _⟩
    · obtain ⟨rfl, rfl⟩ := none_of_keys (p := isKT) isKT_keyD m k2
      exact ⟨.dT [(key, v)], .inr ⟨.inl e, .inr ⟨key, b, rfl, sub _ _ hb, rfl⟩⟩, .inr (.inl ⟨_, upd_same, rfl, .one rv⟩), fun _ z => nomatch z⟩
    · obtain ⟨m2, r2⟩ := put_rep (f := fun k => PyData.tuple (k.map keyD)) eqv_keys m r key rv
      refine ⟨.dT (putK ks key v), .inl (.inr ⟨ks, key, b, e, rfl, sub _ _ hb, ?_, rfl⟩), .inr (.inl ⟨_, upd_same, m2, r2⟩), fun _ z => nomatch z⟩
      have := congrArg List.length m; simp at this; rw [sizeLine_eq]; omega
    · exact (noz z).elim
theorem dc_nil {F H : Hp} {p : Addr} : DcOk F (upd H p (.dK [])) p [] := .inl ⟨[], upd_same, rfl, .nil⟩
theorem snd_dc {E : XK} {wi : TI} {w : WI} {us vs : List Nat} {g : TG} {wg : WG} {tt : TT} {wt : WT} {tk tv : TE} {wk wv : WE} (hi : SndI E wi w) (hu : ∀ j ∈ us, j ∈ vs) (hg : SndG us g wg) (ht : SndT EC tt wt) (hk : SndE EC tk wk) (he : SndE EC tv wv) :
    SndE E (tDcA wi g tt tk tv vs) (wDc w wg wt wk wv vs) := by
  intro a K B k σ F H fps x Q q b
  refine hi a _ B k σ F H fps x _ (fun xs a1 F1 H1 J k1 n1 x1 l1 so => ?_) b
  obtain ⟨hz, I, i0, iend, turn⟩ := k1
  intro D hD
  have hn : D ∉ fps.flatten := x1.fresh hD
  have hf : F1 D = none := x1.sub.gone hD
  let G : Nat → Hp → Prop := fun i H' => ∃ acc ow F2, I i acc ow ∧ acc.length ≤ i ∧ AOk { a1 with ow := ow } σ F2 H' fps ∧ Le F1 H1 fps.flatten F2 H' fps.flatten ∧ DcOk F2 H' D acc ∧ F2 D = none
  refine ⟨fun i m H2 => m = xs.length - i ∧ i ≤ xs.length ∧ G i H2, ⟨xs.length, by simp, Nat.zero_le _, [], a1.ow, F1, i0, Nat.le_refl _, x1.newH hD, Le.newH hD, dc_nil, hf⟩, ?_⟩
  rintro i m H2 ⟨rfl, hi, acc, ow, F2, ii, ha, x2, l2, h2, f2⟩
  by_cases hlt : i < xs.length
  · refine .inr ⟨so.go i H2 (l2.fr.trans x2.sub) hlt, G (i + 1), fun H' h => ⟨xs.length - (i + 1), by omega, rfl, hlt, h⟩, fun v H' y => ?_⟩
    obtain ⟨d, hd⟩ : ∃ d, xs[i]? = some d := ⟨xs[i], by simp [hlt]⟩
    have main : ∀ F3, AOk { a1 with ow := ow } σ F3 H' fps → Le F2 H2 fps.flatten F3 H' fps.flatten → Rep F3 v d → g v (L2.wipe σ vs) H' fun σ2 H2 => L2.wipe σ2 vs = L2.wipe σ vs ∧ tt σ2 H2 fun b H3 =>
        if b = true then tk σ2 H3 fun y H4 => tv σ2 H4 fun z H5 => ∃ H6, DPutA H5 D y z H6 ∧ G (i + 1) H6 else G (i + 1) H3 := by
      intro F3 x3 l3 r3
      have keepD : ∀ {F4 H4 F5 H5 : Hp}, Le F4 H4 fps.flatten F5 H5 fps.flatten → DcOk F4 H4 D acc → F4 D = none → DcOk F5 H5 D acc ∧ F5 D = none := fun {F4 H4 F5 H5} l dc n => by
        obtain ⟨o, ho⟩ := dc.there
        exact ⟨dc.mono l.fr fun u e => l.hp D u hn e, l.noF ho hn n⟩
      obtain ⟨h3, f3⟩ := keepD l3 h2 f2
      refine hg.run d _ _ (turn i d acc ow hd ii) (L2.wipe σ vs) F3 H' fps v (x3.wipe vs) r3 _ fun a4 σ4 k4 n4 w4 x4 ln4 e4 => ⟨wipe_eq hu ln4 e4, ?_⟩
      refine ht a4 _ _ k4 σ4 F3 H' fps x4 _ (fun bb a5 F5 H5 k5 n5 x5 l5 => ?_) noB
      obtain ⟨h5, f5⟩ := keepD l5 h3 f3
      cases bb with
      | false =>
        rw [if_neg Bool.false_ne_true]
        exact ⟨acc, a5.ow, F5, k5.2 rfl, by omega, x3.cells x5 l5.fr (n5.trans n4), (l2.trans l3).trans l5, h5, f5⟩
      | true =>
        rw [if_pos rfl]
        refine hk a5 _ _ (k5.1 rfl) σ4 F5 H5 fps x5 _ (fun rk a6 uk F6 H6 k6 n6 x6 l6 o6 w6 => ?_) noB
        obtain ⟨h6, f6⟩ := keepD l6 h5 f5
        refine he a6 _ _ k6 σ4 F6 H6 fps x6 _ (fun rv a7 uv F7 H7 ⟨kd, y, ek, ev, ko, k7⟩ n7 x7 l7 o7 w7 => ?_) noB
        obtain ⟨h7, f7⟩ := keepD l7 h6 f6
        subst ek
        obtain ⟨F8, z8, r8⟩ := freeze_one (H0 := H6) x7 o7.w w7 ev
        have f8 : F8 D = none := by
          cases e : F8 D with
          | none => rfl
          | some o =>
            obtain ⟨o', ho⟩ := h6.there
            rcases z8.nw D (by rw [e]; simp) with z | z
            · exact absurd f7 z
            · rw [ho] at z; cases z
        have k8 : Rep F8 uk kd := Rep.mono (l7.fr.trans z8.sub) o6
        obtain ⟨ob, pu, dc, nt⟩ := put_new (h7.mono z8.sub fun _ e => e) z8.ok.sub k8 ko (by omega) r8
        refine ⟨_, pu, dput acc kd y, a7.ow, F8, k7, by have := dput_len acc kd y; omega, ?_, ?_, dc, f8⟩
        · have x9 := x3.cells z8.ok (((l5.fr.trans l6.fr).trans l7.fr).trans z8.sub) (n7.trans (n6.trans (n5.trans n4)))
          exact x9.mutD f8 hn nt
        · exact ((((l2.trans l3).trans l5).trans l6).trans (z8.le l7)).mutD hD
    rcases so.yld i H2 v H' F2 l2.fr x2.sub y d hd with ⟨e, r⟩ | ⟨p, o, hp, e, r⟩
    · subst e
      exact main F2 x2 (Le.refl _ _ _) r
    · subst e
      exact main _ (x2.newF hp) (Le.newF x2.sub hp) r
  · have e : i = xs.length := by omega
    subst e
    refine .inl ⟨so.stop _ H2 (l2.fr.trans x2.sub) (Nat.le_refl _), ?_⟩
    exact q (.nd acc) _ _ F2 H2 (iend acc ow ii) n1 x2 (l1.trans l2) ⟨D, rfl, h2, f2, hn⟩ fun p' e' => by cases e'; exact l1.ex _ hD
section
variable {X : Cx} {E : XK} {kx vx tg iter : Expr} {ifs : List Expr} {scope : Scope} {own : List (Str × Nat)} {pos : Pos} {wi : TI} {w : WI} {us : List Nat} {g : TG} {wg : WG} {tt : TT} {wt : WT} {tk tv : TE} {wk wv : WE}
theorem de_dc (hu' : X.A.units + 200 < cLine) (hc : X.calm = true) (hN : X.N.Nodup) (hi : DI X E tg iter wi w) (ok : BlkOk X.N X.env.scope scope own) (hu : ∀ j ∈ us, j ∈ own.map (·.2))
    (hg : ∀ (s : Shared) (H : Hp) (C : Addr) (cl : List (Str × Addr)) (fp : List Addr), DG (X.blk s H scope (compEnvC scope cl C X.env) fp) tg us g wg)
    (ht : ∀ (s : Shared) (H : Hp) (C : Addr) (cl : List (Str × Addr)) (fp : List Addr), DTs (X.blk s H scope (compEnvC scope cl C X.env) fp) EC ifs tt wt)
    (hk : ∀ (s : Shared) (H : Hp) (C : Addr) (cl : List (Str × Addr)) (fp : List Addr), DE (X.blk s H scope (compEnvC scope cl C X.env) fp) EC kx tk wk)
    (he : ∀ (s : Shared) (H : Hp) (C : Addr) (cl : List (Str × Addr)) (fp : List Addr), DE (X.blk s H scope (compEnvC scope cl C X.env) fp) EC vx tv wv)
    (hs : ∀ x, foldedSetIterable iter X.env x = pure x := by intro _; rfl) : DE X E (.DictComp kx vx [⟨tg, iter, ifs, 0⟩] scope pos) (tDcA wi g tt tk tv (own.map (·.2))) (wDc w wg wt wk wv (own.map (·.2))) :=
  ⟨pe_dcA hc hu' hN hi.pi ok (fun s H C cl fp => (hg s H C cl fp).pg) (fun s H C cl fp => (ht s H C cl fp).pt) (fun s H C cl fp => (hk s H C cl fp).pe) (fun s H C cl fp => (he s H C cl fp).pe) hs,
    snd_dc hi.so hu (hg X.s_0 X.H_0 0 [] []).so (ht X.s_0 X.H_0 0 [] []).so (hk X.s_0 X.H_0 0 [] []).so (he X.s_0 X.H_0 0 [] []).so⟩
theorem ps_dcD {i : Nat} {y : Str} {py spos : Pos} (lk : Bool) (hu' : X.A.units + 200 < cLine) (hc : X.calm = true) (hN : X.N.Nodup) (hy : X.N[i]? = some y) (hyl : X.env.scope.names.lookup y = some .local)
    (hsw : swapsWith (.DictComp kx vx [⟨tg, iter, ifs, 0⟩] scope pos) (some (.Name y py)) spos.line X.env = pure true) (hi : DI X E tg iter wi w) (ok : BlkOk X.N X.env.scope scope own) (hu : ∀ j ∈ us, j ∈ own.map (·.2))
    (hg : ∀ (s : Shared) (H : Hp) (C : Addr) (cl : List (Str × Addr)) (fp : List Addr), DG (X.blk s H scope (compEnvC scope cl C X.env) fp) tg us g wg)
    (ht : ∀ (s : Shared) (H : Hp) (C : Addr) (cl : List (Str × Addr)) (fp : List Addr), DTs (X.blk s H scope (compEnvC scope cl C X.env) fp) EC ifs tt wt)
    (hk : ∀ (s : Shared) (H : Hp) (C : Addr) (cl : List (Str × Addr)) (fp : List Addr), DE (X.blk s H scope (compEnvC scope cl C X.env) fp) EC kx tk wk)
    (he : ∀ (s : Shared) (H : Hp) (C : Addr) (cl : List (Str × Addr)) (fp : List Addr), DE (X.blk s H scope (compEnvC scope cl C X.env) fp) EC vx tv wv)
    (hs : ∀ x, foldedSetIterable iter X.env x = pure x := by intro _; rfl) :
    PS X (.Assign [.Name y py] (.DictComp kx vx [⟨tg, iter, ifs, 0⟩] scope pos) spos) (tAsg (if lk = true then tLk (tDcA wi g tt tk tv (own.map (·.2))) else tDcA wi g tt tk tv (own.map (·.2))) (gName i)) ∧
      SndE E (if lk = true then tLk (tDcA wi g tt tk tv (own.map (·.2))) else tDcA wi g tt tk tv (own.map (·.2))) (if lk = true then wLk (wDc w wg wt wk wv (own.map (·.2))) else wDc w wg wt wk wv (own.map (·.2))) :=
  ⟨ps_setDcA lk hc hu' hN hy hyl hsw hi.pi ok (fun s H C cl fp => (hg s H C cl fp).pg) (fun s H C cl fp => (ht s H C cl fp).pt) (fun s H C cl fp => (hk s H C cl fp).pe) (fun s H C cl fp => (he s H C cl fp).pe) hs, by
    have z := snd_dc hi.so hu (hg X.s_0 X.H_0 0 [] []).so (ht X.s_0 X.H_0 0 [] []).so (hk X.s_0 X.H_0 0 [] []).so (he X.s_0 X.H_0 0 [] []).so
    cases lk with
    | false => exact z
    | true => exact snd_lk z⟩
theorem ds_dc {i : Nat} {st : Stmt} {te : TE} {we : WE} (h : PS X st (tAsg (if true = true then tLk te else te) (gName i)) ∧ SndE E (if true = true then tLk te else te) (if true = true then wLk we else we)) : DS X E st (tAsg (tLk te) (gName i)) (wSet i (wLk we)) := ⟨h.1, snd_set h.2⟩
theorem ds_dcO {i : Nat} {st : Stmt} {te : TE} {we : WE} (h : PS X st (tAsg (if false = true then tLk te else te) (gName i)) ∧ SndE E (if false = true then tLk te else te) (if false = true then wLk we else we)) : DS X E st (tAsg te (gName i)) (wSetO i we) := ⟨h.1, snd_setO h.2⟩
theorem sw_trueD {kx vx : Expr} {gs : List Comprehension} {scope : Scope} {pos py : Pos} {y : Str} {l : Nat} {env : Env} (fk : env.scope.kind = .function) (loc : env.scope.names.lookup y = some .local) (same : (py.line == pos.line) = true)
    (apart : (scope.names.any fun (n, k) => n == y && (k == .local || k == .cell)) = false) : swapsWith (.DictComp kx vx gs scope pos) (some (.Name y py)) l env = pure true := by
  have b1 : env.blockKind = .function := by unfold Env.blockKind; rw [fk]; rfl
  unfold swapsWith
  simp only [b1, show env.kindOf y = some .local from loc, apart, Expr.pos, same]
  rfl
end
end DL
namespace DL
open PySem PySem.Spec PyProof.Rows L2
theorem Rep.raw {F : Hp} {v : V} {ds : List (D × D)} (h : Rep F v (.dict ds)) : ∃ p o u ks vs, v = .ref p ∧ F p = some (.frz o u) ∧ (p == sysModules) = false ∧ LkO o ks vs ∧ RepAll F ks (ds.map (·.1)) ∧ RepAll F vs (ds.map (·.2)) := by
  cases h with
  | @dct a o kvs _ f y l k r =>
    refine ⟨a, o, _, _, _, rfl, f, y, l, ?_, r⟩
    rw [k]
    have go : ∀ kvs : List (Key × V), RepAll F (kvs.map fun k => kV k.1) (kvs.map fun k => keyD k.1) := by
      intro kvs
      induction kvs with
      | nil => exact .nil
      | cons x _ ih =>
        refine .cons ?_ ih
        obtain ⟨k, v⟩ := x
        cases k with
        | inl i => exact .int i
        | inr y => exact .str y
    exact go kvs
  | dctT f y l k q r => exact ⟨_, _, _, _, _, rfl, f, y, l, q, r⟩
  | dctR f y l z q r => exact ⟨_, _, _, _, _, rfl, f, y, l, q, r⟩
theorem LkO.at {o : Obj} {ks vs : List V} (l : LkO o ks vs) : ∃ es ep, o.data = .dict es ep ∧ es.size = ks.length ∧ es.size = vs.length ∧ (∀ i k, ks[i]? = some k → ∃ h : i < es.size, RelV k es[i].key) ∧ ∀ i v, vs[i]? = some v → ∃ h : i < es.size, RelV v es[i].val := by
  obtain ⟨es, ep, d, r1, r2⟩ := l.da
  refine ⟨es, ep, d, ?_, ?_, fun i k e => ?_, fun i v e => ?_⟩
  · have := r1.length; rw [List.length_map, Array.length_toList] at this; exact this.symm
  · have := r2.length; rw [List.length_map, Array.length_toList] at this; exact this.symm
  · obtain ⟨u, e1, e2⟩ := r1.get e
    rw [List.getElem?_map, Array.getElem?_toList] at e1
    obtain ⟨en, h1, h2⟩ := Option.map_eq_some_iff.mp e1
    obtain ⟨hi, h3⟩ := Array.getElem?_eq_some_iff.mp h1
    exact ⟨hi, by rw [h3, h2]; exact e2⟩
  · obtain ⟨u, e1, e2⟩ := r2.get e
    rw [List.getElem?_map, Array.getElem?_toList] at e1
    obtain ⟨en, h1, h2⟩ := Option.map_eq_some_iff.mp e1
    obtain ⟨hi, h3⟩ := Array.getElem?_eq_some_iff.mp h1
    exact ⟨hi, by rw [h3, h2]; exact e2⟩
def ItX (d : Addr) (o : Obj) (u : HO) (xs : List V) : It :=
  ⟨fun i H => H d = some (.frz o u) ∧ i < xs.length, fun i H x H' => H' = H ∧ xs[i]? = some x, fun i H => H d = some (.frz o u) ∧ xs.length ≤ i⟩
def ItP (d : Addr) (o : Obj) (u : HO) (ks vs : List V) : It :=
  ⟨fun i H => H d = some (.frz o u) ∧ i < ks.length, fun i H x H' => ∃ T k v, ks[i]? = some k ∧ vs[i]? = some v ∧ x = .ref T ∧ H T = none ∧ H' = upd H T (.tup [k, v]), fun i H => H d = some (.frz o u) ∧ ks.length ≤ i⟩
section
variable {P : Program} {w : World} {K : PySem.W.Frag} {tg : Expr} {d : Addr} {o : Obj} {u : HO} {ks vs : List V}
theorem one_iter {it : Addr} {n : String} {fs : Nat → Array Value} {tn : Nat → Heap → Prop} (h : ∀ i h, tn i h → ∃ oi, h.get? it = some oi ∧ oi.cls = .type n ∧ oi.data = .fields (fs i)) : ∀ i h, tn i h → ∀ b ∈ [it], ∃ o, h.get? b = some o ∧ ∀ v, o.data ≠ .cell v := fun i hp st b hb => by
  have e : b = it := by simpa using hb
  subst e
  obtain ⟨oi, e, c, dd⟩ := h i hp st
  exact ⟨oi, e, fun v z => by rw [dd] at z; cases z⟩
theorem raw_of {X : Cx} {pins : List (Addr × Obj)} {σ : Sgm} {H : Hp} {s : Shared} (I : L2.Inv X pins σ H s) (h : H d = some (.frz o u)) (l : LkO o ks vs) {es : Array DictEntry} {ep : Nat} (da : o.data = .dict es ep) : s.heap.DictRaw d es ep :=
  ⟨o, (I.hok d _ h).1, l.ex, da⟩
theorem turn_keysX (it : Addr) (l : LkO o ks vs) {es : Array DictEntry} {ep : Nat} (da : o.data = .dict es ep) (hsz : es.size = ks.length) (hk : ∀ i k, ks[i]? = some k → ∃ h : i < es.size, RelV k es[i].key) :
    Turn P w K tg (ItX d o u ks) [it] it (fun i h => h.IsKeyIter it d i es.size ep) where
  mem := by simp
  obj := one_iter (fs := fun i => #[.ref d, .int i 0, .int es.size 0, .int ep 0]) fun i h st => let ⟨oi, e, c, dd⟩ := st; ⟨oi, e, c, dd⟩
  keep := fun i h h' st k => st.at fun oi e => k it (by simp) oi e
  item := by
    intro X hP hw hK hc i pins s σ H E I hf st hg
    subst hP hw hK
    obtain ⟨hd, hi⟩ := hg
    obtain ⟨g0, g1, g2, g3, g4, g5⟩ := hf it (by simp)
    have ek : ks[i]? = some ks[i] := List.getElem?_eq_getElem hi
    obtain ⟨hlt, rk⟩ := hk i _ ek
    refine wpAny_pyNext_keys_item_raw st (raw_of I hd l da) hlt fun h' st' sb => ?_
    obtain ⟨oi, e, c, dd⟩ := id st'
    exact ⟨es[i].key, rfl, go_of (s := { s with heap := h' }) e c dd (by decide) ⟨ks[i], H, I.turned (t' := s.toks) (fun b ob hb e => (sb.2 b hb).trans e) g0 g1 g3 g4 g5, rk, ⟨rfl, ek⟩, st', fun b hb => (hf b hb).1⟩⟩
  done := by
    intro X hP hw hK hc i pins s σ H E I hf st hg
    subst hP hw hK
    obtain ⟨hd, hi⟩ := hg
    obtain ⟨g0, g1, g2, g3, g4, g5⟩ := hf it (by simp)
    exact wpAny_pyNext_keys_end_raw (I.ok.hd hc) st (raw_of I hd l da) (by omega) fun h' eb => ⟨rfl, I.turned (t' := s.toks) (fun b ob hb e => eb b ob hb e) g0 g1 g3 g4 g5⟩
  self := fun A i s Q E st h => wpAny_pyIter_keyiter st h
theorem turn_valsX (it : Addr) (l : LkO o ks vs) {es : Array DictEntry} {ep : Nat} (da : o.data = .dict es ep) (hsz : es.size = vs.length) (hv : ∀ i v, vs[i]? = some v → ∃ h : i < es.size, RelV v es[i].val) :
    Turn P w K tg (ItX d o u vs) [it] it (fun i h => h.IsValIter it d i es.size ep) where
  mem := by simp
  obj := one_iter (fs := fun i => #[.ref d, .int i 0, .int es.size 0, .int ep 0]) fun i h st => let ⟨oi, e, c, dd⟩ := st; ⟨oi, e, c, dd⟩
  keep := fun i h h' st k => st.at fun oi e => k it (by simp) oi e
  item := by
    intro X hP hw hK hc i pins s σ H E I hf st hg
    subst hP hw hK
    obtain ⟨hd, hi⟩ := hg
    obtain ⟨g0, g1, g2, g3, g4, g5⟩ := hf it (by simp)
    have ek : vs[i]? = some vs[i] := List.getElem?_eq_getElem hi
    obtain ⟨hlt, rk⟩ := hv i _ ek
    refine wpAny_pyNext_values_item_raw st (raw_of I hd l da) hlt fun h' st' sb => ?_
    obtain ⟨oi, e, c, dd⟩ := id st'
    exact ⟨es[i].val, rfl, go_of (s := { s with heap := h' }) e c dd (by decide) ⟨vs[i], H, I.turned (t' := s.toks) (fun b ob hb e => (sb.2 b hb).trans e) g0 g1 g3 g4 g5, rk, ⟨rfl, ek⟩, st', fun b hb => (hf b hb).1⟩⟩
  done := by
    intro X hP hw hK hc i pins s σ H E I hf st hg
    subst hP hw hK
    obtain ⟨hd, hi⟩ := hg
    obtain ⟨g0, g1, g2, g3, g4, g5⟩ := hf it (by simp)
    exact wpAny_pyNext_values_end_raw (I.ok.hd hc) st (raw_of I hd l da) (by omega) fun h' eb => ⟨rfl, I.turned (t' := s.toks) (fun b ob hb e => eb b ob hb e) g0 g1 g3 g4 g5⟩
  self := fun A i s Q E st h => wpAny_pyIter_valiter st h
theorem turn_itemsX {elts : List Expr} {kk : Nat} {tpos : Pos} (it : Addr) (l : LkO o ks vs) {es : Array DictEntry} {ep : Nat} (da : o.data = .dict es ep) (hs1 : es.size = ks.length) (hs2 : es.size = vs.length)
    (hk : ∀ i k, ks[i]? = some k → ∃ h : i < es.size, RelV k es[i].key) (hv : ∀ i v, vs[i]? = some v → ∃ h : i < es.size, RelV v es[i].val) :
    Turn P w K (.Tuple elts kk tpos) (ItP d o u ks vs) [it] it (fun i h => ∃ ok ov, IsItemIter h it d i es.size ep ok ov) where
  mem := by simp
  obj := fun i h st b hb => by
    have e : b = it := by simpa using hb
    subst e
    obtain ⟨ok, ov, e⟩ := st
    exact ⟨_, e, fun v z => nomatch z⟩
  keep := fun i h h' st k => let ⟨ok, ov, e⟩ := st; ⟨ok, ov, k it (by simp) _ e⟩
  item := by
    intro X hP hw hK hc i pins s σ H E I hf st hg
    subst hP hw hK
    obtain ⟨hd, hi⟩ := hg
    have ek : ks[i]? = some ks[i] := List.getElem?_eq_getElem hi
    have hi2 : i < vs.length := by omega
    have ev : vs[i]? = some vs[i] := List.getElem?_eq_getElem hi2
    obtain ⟨hlt, rk⟩ := hk i _ ek
    obtain ⟨_, rv⟩ := hv i _ ev
    obtain ⟨ok, ov, he⟩ := st
    have hit : it < s.heap.objs.size := Heap.lt_size he
    refine wpAny_pyNext_items_item_raw he (raw_of I hd l da) hlt fun h' ho hT hz keep => ?_
    refine ⟨_, rfl, wpAny_letOwnedTupleGo_items (s := { s with heap := h' }) ho fun h'' he' sb => ?_⟩
    have hT2 : h''.get? s.heap.objs.size = some { cls := .type "tuple", data := .seq #[es[i].key, es[i].val] } := (sb.2 _ (Nat.ne_of_gt hit)).trans hT
    have new : ObjOk X.prog X.w (upd H s.heap.objs.size (.tup [ks[i], vs[i]])) h'' s.heap.objs.size (.tup [ks[i], vs[i]]) :=
      ⟨by show 2 ≤ sizeLine; decide, [es[i].key, es[i].val], .cons rk (.cons rv .nil), ⟨_, hT2, rfl, _, rfl⟩⟩
    have I1 : L2.Inv X pins σ (upd H s.heap.objs.size (.tup [ks[i], vs[i]])) { s with heap := h'' } :=
      I.turnedNew (t' := s.toks) (ch := [it]) (fun b ob hb e => (sb.2 b (by simpa using hb)).trans (keep b ob (by simpa using hb) e)) hf (Nat.le_refl _) new
    refine ⟨.ref s.heap.objs.size, _, I1, rfl, ⟨_, _, _, ek, ev, rfl, I.hok.fresh (Nat.le_refl _), rfl⟩, ⟨_, _, he'⟩, fun b hb => ?_⟩
    have e : b = it := by simpa using hb
    rw [e, upd_ne (Nat.ne_of_lt hit)]
    exact (hf it (by simp)).1
  done := by
    intro X hP hw hK hc i pins s σ H E I hf st hg
    subst hP hw hK
    obtain ⟨hd, hi⟩ := hg
    obtain ⟨g0, g1, g2, g3, g4, g5⟩ := hf it (by simp)
    obtain ⟨ok, ov, he⟩ := st
    exact wpAny_pyNext_items_end_raw (I.ok.hd hc) he (raw_of I hd l da) (by omega) fun h' eb => ⟨rfl, I.turned (t' := s.toks) (fun b ob hb e => eb b ob hb e) g0 g1 g3 g4 g5⟩
  self := fun A i s Q E st h => let ⟨_, _, e⟩ := st; PySem.W.kcp_self e h
end
def iAny (K : PySem.W.Frag) (tl : TE) : TI := fun σ H R => tl σ H fun x H1 => ∃ a, x = .ref a ∧ ((∃ xs, H1 a = some (.lst xs)) ∧ R (Itl K a) H1 ∨ (∃ xs, H1 a = some (.tup xs)) ∧ R (Itt K a) H1 ∨
  ∃ o u ks vs, H1 a = some (.frz o u) ∧ (a == sysModules) = false ∧ LkO o ks vs ∧ R (ItX a o u ks) H1)
def iValX (tl : TE) : TI := fun σ H R => tl σ H fun x H1 => ∃ a o u ks vs, x = .ref a ∧ H1 a = some (.frz o u) ∧ (a == sysModules) = false ∧ LkO o ks vs ∧ R (ItX a o u vs) H1
def iItemX (tl : TE) : TI := fun σ H R => tl σ H fun x H1 => ∃ a o u ks vs, x = .ref a ∧ H1 a = some (.frz o u) ∧ (a == sysModules) = false ∧ LkO o ks vs ∧ R (ItP a o u ks vs) H1
section
variable {X : Cx} {E : XK} {tg l e : Expr} {tl : TE} {we : WE} {apos cpos : Pos}
theorem pi_any (hl : PE X l tl) : PI X tg l (iAny X.K tl) := by
  refine ⟨fun pins s σ H R I h => ?_⟩
  refine thn (hl.run pins s σ H _ I h) fun v s1 ⟨x, H1, I1, r1, q1⟩ => ?_
  obtain ⟨a, e, q⟩ := q1
  subst e
  cases r1
  have hfp : ∀ b ∈ [s1.heap.objs.size], FpOk X pins H1 b := fun b hb => by
    have e : b = s1.heap.objs.size := by simpa using hb
    subst e
    exact I1.fpOk (Nat.le_refl _) (I1.hok.fresh (Nat.le_refl _))
  rcases q with ⟨⟨xs, hx⟩, q⟩ | ⟨⟨xs, hx⟩, q⟩ | ⟨o, u, ks, vs, hd, hs, lk, q⟩
  · obtain ⟨its, rv, pl, hz⟩ := I1.list (SqL.of hx)
    refine wpAny_pyIter_list pl.isList ?_
    exact ⟨s1.heap.objs.size, [s1.heap.objs.size], _, _, H1, rfl, I1.kept (t' := s1.toks) fun b o e => Heap.get?_push_of_some _ e, turn_list a _, ⟨_, Heap.get?_push_size _ rfl, rfl, rfl⟩, hfp, q⟩
  · obtain ⟨its, rv, pl, hz⟩ := I1.tuple (SqT.of hx)
    refine wpAny_pyIter_tuple (show s1.heap.IsTuple a its.toArray from pl) ?_
    exact ⟨s1.heap.objs.size, [s1.heap.objs.size], _, _, H1, rfl, I1.kept (t' := s1.toks) fun b o e => Heap.get?_push_of_some _ e, turn_tuple a _, ⟨_, Heap.get?_push_size _ rfl, rfl, rfl⟩, hfp, q⟩
  · obtain ⟨es, ep, da, z1, z2, k1, k2⟩ := lk.at
    exact iter_keys hs (I1.hok a _ hd).1 lk.ex da (pi_one (tk := s1.toks) I1 _ (turn_keysX _ lk da z1 k1) ⟨_, Heap.get?_push_size _ rfl, rfl, rfl⟩ q)
theorem pi_valX (he : PE X e tl) (hbase : attributeBase e "values" X.env (eval e X.env) = eval e X.env := by rfl) (hline : (apos.endLine == cpos.line) = true := by rfl) : PI X tg (.Call (.Attribute e "values" apos) [] [] cpos) (iValX tl) := by
  refine ⟨fun pins s σ H R I h => ?_⟩
  refine wpAny_Call_method (T := "dict") (id := "dict.values") hbase rfl hline PySem.F.plainAttrs_dict PySem.F.slot_dict_values PySem.F.type_dict_values (thn (he.run pins s σ H _ I h) fun v s1 ⟨x, H1, I1, rx, a, o, u, ks, vs, ex, hd, hs, lk, q⟩ => ?_)
  subst ex
  obtain rfl : v = Value.ref a := rx
  obtain ⟨es, ep, da, z1, z2, k1, k2⟩ := lk.at
  have raw := raw_of I1 hd lk da
  refine ⟨raw.typeIs, fun b eb => (by cases eb; exact ⟨o, (I1.hok a _ hd).1, lk.ex.2.1⟩), ?_⟩
  have I2 : L2.Inv X pins σ H1 { s1 with heap := s1.heap.push { cls := .type "dict_values", data := .fields #[.ref a] } } := I1.kept (t' := s1.toks) fun b ob q => Heap.get?_push_of_some _ q
  show wpAny _ _ (callWith cpos (.builtin "dict.values") [.ref a] [] []) _ X.xe s1
  refine method_meetsIn PySem.F.slot_dict_values PySem.F.entry_dict_values rfl (PySem.evalArgs_none ⟨rfl, raw.typeIs, PySem.F.args_dict_values_1 _, _, meets_dict_values_raw a hs, ⟨es, ep, raw⟩, ?_⟩)
  exact wpAny_pyIter_values_raw (d := a) ⟨_, Heap.get?_push_size _ rfl, rfl, rfl⟩ (raw_of I2 hd lk da) (pi_one (tk := s1.toks) I2 _ (turn_valsX _ lk da z2 k2) ⟨_, Heap.get?_push_size _ rfl, rfl, rfl⟩ q)
theorem pi_itemX {elts : List Expr} {kk : Nat} {tpos : Pos} (he : PE X e tl) (hbase : attributeBase e "items" X.env (eval e X.env) = eval e X.env := by rfl) (hline : (apos.endLine == cpos.line) = true := by rfl) :
    PI X (.Tuple elts kk tpos) (.Call (.Attribute e "items" apos) [] [] cpos) (iItemX tl) := by
  refine ⟨fun pins s σ H R I h => ?_⟩
  refine wpAny_Call_method (T := "dict") (id := "dict.items") hbase rfl hline PySem.F.plainAttrs_dict PySem.F.slot_dict_items PySem.F.type_dict_items (thn (he.run pins s σ H _ I h) fun v s1 ⟨x, H1, I1, rx, a, o, u, ks, vs, ex, hd, hs, lk, q⟩ => ?_)
  subst ex
  obtain rfl : v = Value.ref a := rx
  obtain ⟨es, ep, da, z1, z2, k1, k2⟩ := lk.at
  have raw := raw_of I1 hd lk da
  refine ⟨raw.typeIs, fun b eb => (by cases eb; exact ⟨o, (I1.hok a _ hd).1, lk.ex.2.1⟩), ?_⟩
  have I2 : L2.Inv X pins σ H1 { s1 with heap := s1.heap.push { cls := .type "dict_items", data := .fields #[.ref a] } } := I1.kept (t' := s1.toks) fun b ob q => Heap.get?_push_of_some _ q
  show wpAny _ _ (callWith cpos (.builtin "dict.items") [.ref a] [] []) _ X.xe s1
  refine method_meetsIn PySem.F.slot_dict_items PySem.F.entry_dict_items rfl (PySem.evalArgs_none ⟨rfl, raw.typeIs, PySem.F.args_dict_items_1 _, _, meets_dict_items_raw a hs, ⟨es, ep, raw⟩, ?_⟩)
  exact wpAny_pyIter_items_raw (d := a) ⟨_, Heap.get?_push_size _ rfl, rfl, rfl⟩ (raw_of I2 hd lk da) (pi_one (tk := s1.toks) I2 _ (turn_itemsX _ lk da z1 z2 k1 k2) ⟨.none, .none, Heap.get?_push_size _ rfl⟩ q)
theorem src_X {F : Hp} {p : Addr} {o : Obj} {u : HO} {vs : List V} {xs : List PyData} (h : F p = some (.frz o u)) (r : RepAll F vs xs) : SrcOk (ItX p o u vs) F xs where
  go := fun i H s hi => ⟨s _ _ h, by rw [r.length]; exact hi⟩
  stop := fun i H s hi => ⟨s _ _ h, by rw [r.length]; exact hi⟩
  yld := fun i H v H' F1 s1 s2 y d hd => by
    obtain ⟨e, y⟩ := y
    subst e
    obtain ⟨d', e2, r2⟩ := r.get y
    rw [hd] at e2; cases e2
    exact .inl ⟨rfl, r2.mono s1⟩
def pairsD (kvs : List (PyData × PyData)) : List PyData := kvs.map fun p => .tuple [p.1, p.2]
theorem src_P {F : Hp} {p : Addr} {o : Obj} {u : HO} {ks vs : List V} {kvs : List (PyData × PyData)} (h : F p = some (.frz o u)) (r1 : RepAll F ks (kvs.map (·.1))) (r2 : RepAll F vs (kvs.map (·.2))) : SrcOk (ItP p o u ks vs) F (pairsD kvs) where
  go := fun i H s hi => ⟨s _ _ h, by rw [r1.length, List.length_map]; unfold pairsD at hi; rw [List.length_map] at hi; exact hi⟩
  stop := fun i H s hi => ⟨s _ _ h, by rw [r1.length, List.length_map]; unfold pairsD at hi; rw [List.length_map] at hi; exact hi⟩
  yld := fun i H v H' F1 s1 s2 y d hd => by
    obtain ⟨T, k, v', e1, e2, rfl, hT, rfl⟩ := y
    obtain ⟨d1, f1, g1⟩ := r1.get e1
    obtain ⟨d2, f2, g2⟩ := r2.get e2
    unfold pairsD at hd
    rw [List.getElem?_map] at hd f1 f2
    obtain ⟨q, hq, rfl⟩ := Option.map_eq_some_iff.mp hd
    rw [hq] at f1 f2
    cases f1; cases f2
    have hF : F1 T = none := by
      cases z : F1 T with
      | none => rfl
      | some o => rw [s2 _ _ z] at hT; cases hT
    refine .inr ⟨T, _, hT, rfl, .tup upd_same (.cons ?_ (.cons ?_ .nil))⟩
    · exact (g1.mono s1).mono (Sub.put hF)
    · exact (g2.mono s1).mono (Sub.put hF)
def wiAny (we : WE) : WI := fun a K B => we a (fun r a1 => (∃ d ds, frz r = some d ∧ itemsD d = some ds ∧ K ds a1) ∨ ∃ kvs, r = .d (.dict kvs) ∧ K (kvs.map (·.1)) a1) B
def wiVal (we : WE) : WI := fun a K B => we a (fun r a1 => ∃ kvs, r = .d (.dict kvs) ∧ K (kvs.map (·.2)) a1) B
def wiItem (we : WE) : WI := fun a K B => we a (fun r a1 => ∃ kvs, r = .d (.dict kvs) ∧ K (pairsD kvs) a1) B
theorem di_any (h : DE X E l tl we) : DI X E tg l (iAny X.K tl) (wiAny we) := ⟨pi_any h.pe, by
  intro a K B k σ F H fps x R q b
  refine h.so a _ B k σ F H fps x _ (fun r a1 v F1 H1 k1 n1 x1 l1 o1 w1 => ?_) b
  rcases k1 with ⟨d, ds, e1, e2, k1⟩ | ⟨kvs, rfl, k1⟩
  · obtain ⟨F2, f, rp⟩ := freeze_one (H0 := H) x1 o1.w w1 e1
    cases d with
    | list ys =>
      cases e2
      cases rp with
      | lst hp rr => exact ⟨_, rfl, .inl ⟨⟨_, f.ok.sub _ _ hp⟩, q _ a1 F2 H1 _ k1 n1 f.ok (f.le l1) (src_list hp rr)⟩⟩
    | tuple ys =>
      cases e2
      cases rp with
      | tup hp rr => exact ⟨_, rfl, .inr (.inl ⟨⟨_, f.ok.sub _ _ hp⟩, q _ a1 F2 H1 _ k1 n1 f.ok (f.le l1) (src_tup hp rr)⟩)⟩
    | _ => cases e2
  · obtain ⟨p, o, u, ks, vs, rfl, hp, hs, lk, r1, r2⟩ := Rep.raw o1
    exact ⟨p, rfl, .inr (.inr ⟨o, u, ks, vs, x1.sub _ _ hp, hs, lk, q _ a1 F1 H1 _ k1 n1 x1 l1 (src_X hp r1)⟩)⟩⟩
theorem di_val (h : DE X E e tl we) (hbase : attributeBase e "values" X.env (eval e X.env) = eval e X.env := by rfl) (hline : (apos.endLine == cpos.line) = true := by rfl) : DI X E tg (.Call (.Attribute e "values" apos) [] [] cpos) (iValX tl) (wiVal we) := ⟨pi_valX h.pe hbase hline, by
  intro a K B k σ F H fps x R q b
  refine h.so a _ B k σ F H fps x _ (fun r a1 v F1 H1 ⟨kvs, er, k1⟩ n1 x1 l1 o1 w1 => ?_) b
  subst er
  obtain ⟨p, o, u, ks, vs, rfl, hp, hs, lk, r1, r2⟩ := Rep.raw o1
  exact ⟨p, o, u, ks, vs, rfl, x1.sub _ _ hp, hs, lk, q _ a1 F1 H1 _ k1 n1 x1 l1 (src_X hp r2)⟩⟩
theorem di_item {elts : List Expr} {kk : Nat} {tpos : Pos} (h : DE X E e tl we) (hbase : attributeBase e "items" X.env (eval e X.env) = eval e X.env := by rfl) (hline : (apos.endLine == cpos.line) = true := by rfl) :
    DI X E (.Tuple elts kk tpos) (.Call (.Attribute e "items" apos) [] [] cpos) (iItemX tl) (wiItem we) := ⟨pi_itemX h.pe hbase hline, by
  intro a K B k σ F H fps x R q b
  refine h.so a _ B k σ F H fps x _ (fun r a1 v F1 H1 ⟨kvs, er, k1⟩ n1 x1 l1 o1 w1 => ?_) b
  subst er
  obtain ⟨p, o, u, ks, vs, rfl, hp, hs, lk, r1, r2⟩ := Rep.raw o1
  exact ⟨p, o, u, ks, vs, rfl, x1.sub _ _ hp, hs, lk, q _ a1 F1 H1 _ k1 n1 x1 l1 (src_P hp r1 r2)⟩⟩
end
end DL
namespace DL
open PySem PySem.Spec PyProof.Rows L2
theorem sorted_srcD {prog : Program} {w : World} {A : Around} {E : Value → Shared → Prop} {s : Shared} {T : String} {r d : Addr} {n : Nat} {P : Nat → Value → Prop} {OK : Heap → Prop} {Q : Value → Shared → Prop} {C : List Value → Prop} (Kd : PySem.W.KdlSrc prog w T r d n P OK) (hh : A.handled = none) (hok : OK s.heap) (hn : n ≤ sizeLine)
    (he : ∀ vs : List Value, vs.length = n → (∀ j v, vs[j]? = some v → P j v) → ∃ (ds : List PyData) (R : Value → PyData → Prop), PySem.W.EachIs R vs ds ∧ PySem.W.EachIs (fun v b => ∃ as, Reads s.heap v b as) vs ds ∧ PySem.W.AllAlike ds ∧ PySem.W.Sortable ds ∧ (∀ b, b ∈ ds → A.units + 2 + b.depth < cLine) ∧
      ∀ out, PySem.W.EachIs R out (ds.mergeSort (PySem.W.dataLe false id)) → C out)
    (h : ∀ out (h1 h2 : Heap) tk L e, C out → out.length = n → (∀ b o, s.heap.get? b = some o → h1.get? b = some o) → h1.objs.size ≤ L → (∀ b o, h1.get? b = some o → h2.get? b = some o) → h2.get? L = some (seqObj "list" (List.toArray out) e) → Q (.ref L) { s with heap := h2, toks := tk }) :
    wpAny (model prog w) A (call (.builtin "sorted") [.ref r]) Q E s := by
  refine call_function_entry_kw kind_sorted plain_sorted entry_sorted (args_sorted1 _) ?_
  unfold Builtin.«sorted»
  refine wpAny_bind (m := checkCount "sorted" 1 1 _) (wpAny_pure ?_)
  refine wpAny_bind (PySem.W.kdu_collect (A := A.in1) Kd hh hok hn fun h' tk acc hk hacc => ?_)
  have hl : acc.toList.length = n := by rw [Array.length_toList]; exact hacc.1
  obtain ⟨ds, R, e1, e2, hal, hso, hu, fin⟩ := he acc.toList hl fun j v e => hacc.2 j v (by rw [← Array.getElem?_toList]; exact e)
  refine wpAny_bind (wpAny_newList ?_ (by rw [hl]; exact hn))
  have hz : acc.toList.length ≤ sizeLine := by rw [hl]; exact hn
  have L1 : (h'.push (seqObj "list" acc.toList.toArray 0)).get? h'.objs.size = some (seqObj "list" acc.toList.toArray 0) := Heap.get?_push_size _ rfl
  have up : ∀ b o, s.heap.get? b = some o → (PySem.W.sortingHeap (h'.push (seqObj "list" acc.toList.toArray 0)) h'.objs.size acc.toList).get? b = some o := fun b o e => by
    have e1 := hk b o e
    exact PySem.W.sortingHeap_old (Nat.ne_of_lt (Heap.lt_size e1)) (Heap.get?_push_of_some _ e1)
  have er1 : PySem.W.EachIs (fun v (b : PyData) => ∃ as, Reads (PySem.W.sortingHeap (h'.push (seqObj "list" acc.toList.toArray 0)) h'.objs.size acc.toList) v (id b) as) acc.toList ds :=
    e2.mono fun _ _ ⟨as, r⟩ => ⟨as, PyProof.Rows.Reads.keeps (fun b o e => up b o e) r⟩
  have S := PySem.W.SortsAt.data (prog := prog) (w := w) (A := A.in1.in1) (s := { s with heap := PySem.W.sortingHeap (h'.push (seqObj "list" acc.toList.toArray 0)) h'.objs.size acc.toList, toks := tk }) er1 hal hso hu
  refine wpAny_bind (wpAny_holding (wpAny_call_entry_kw slot_list_sort ⟨_, L1, rfl⟩ entry_list_sort ?body (args_list_sort _)))
  case body =>
    refine wpAny_mono (PySem.W.list_sort_vals (s := { s with heap := h'.push (seqObj "list" acc.toList.toArray 0), toks := tk }) (P := fun f s' => f = .done (.ret .none) ∧ Q (.ref h'.objs.size) s') L1 S hz ⟨rfl, ?_⟩) (fun f s' hf => ?_) fun _ _ x => x
    · obtain ⟨e, at_⟩ := sortedHeap_at (out := (PySem.W.sortVals (PySem.W.dataKind (PySem.W.sortingHeap (h'.push (seqObj "list" acc.toList.toArray 0)) h'.objs.size acc.toList) ds) false acc.toList acc.toList).toArray) L1
      refine h _ h' _ tk _ e (fin _ ?_) (by rw [PySem.W.sortVals_length false rfl]; exact hl) hk (Nat.le_refl _) (fun b o e => ?_) at_
      · have z := PySem.W.sortVals_data (enc := id) false e1 er1 (by rw [List.map_id]; exact hal)
        rw [List.map_id] at z
        exact z
      · have hlt := Heap.lt_size e
        rw [sortedHeap_old (Nat.ne_of_lt hlt) (by rw [Heap.size_push]; exact Nat.lt_succ_of_lt hlt)]
        exact Heap.get?_push_of_some _ e
    · obtain ⟨rfl, hq⟩ := hf
      exact ⟨_, rfl, wpAny_pure ⟨_, rfl, hq⟩⟩
def DKeys (H : Hp) (p : Addr) (C : List V → Prop) : Prop := (∃ o u ks vs, H p = some (.frz o u) ∧ (p == sysModules) = false ∧ LkO o ks vs ∧ C ks) ∨ (∃ kvs : List (Key × V), H p = some (.dK kvs) ∧ C (kvs.map fun k => kV k.1)) ∨
  ∃ kvs : List (List Key × V), H p = some (.dT kvs) ∧ ∀ qs, Paired (fun (q : V) (k : List Key × V) => ∃ b, q = V.ref b ∧ H b = some (.tup (k.1.map kV))) qs kvs → C qs
def DVals (H : Hp) (p : Addr) (vs : List V) : Prop := (∃ o u ks, H p = some (.frz o u) ∧ (p == sysModules) = false ∧ LkO o ks vs) ∨ (∃ kvs : List (Key × V), H p = some (.dK kvs) ∧ vs = kvs.map (·.2)) ∨ ∃ kvs : List (List Key × V), H p = some (.dT kvs) ∧ vs = kvs.map (·.2)
section
variable {X : Cx} {pins : List (Addr × Obj)} {σ : Sgm} {H : Hp} {s : Shared} {p : Addr}
theorem lko_raw {h : Heap} {o : Obj} {ks vs : List V} (g : h.get? p = some o) (l : LkO o ks vs) : ∃ es ep, h.DictRaw p es ep ∧ Vals ks (es.toList.map (·.key)) ∧ Vals vs (es.toList.map (·.val)) := by
  obtain ⟨es, ep, d, r1, r2⟩ := l.da
  exact ⟨es, ep, ⟨o, g, l.ex, d⟩, r1, r2⟩
theorem dkeys_at (I : L2.Inv X pins σ H s) {C : List V → Prop} (h : DKeys H p C) : (p == sysModules) = false ∧ ∃ es ep ks, s.heap.DictRaw p es ep ∧ Vals ks (es.toList.map (·.key)) ∧ C ks := by
  rcases h with ⟨o, u, ks, vs, e, y, l, c⟩ | ⟨kvs, e, c⟩ | ⟨kvs, e, c⟩
  · obtain ⟨es, ep, d, r1, r2⟩ := lko_raw (I.hok p _ e).1 l
    exact ⟨y, es, ep, ks, d, r1, c⟩
  · have x := I.hok p _ e
    obtain ⟨o, ho⟩ : ∃ o, s.heap.get? p = some o := by obtain ⟨_, _, _, _, o, _, _, ho, _⟩ := x; exact ⟨o, ho⟩
    obtain ⟨y, l⟩ := lkd_of ho x
    obtain ⟨es, ep, d, r1, r2⟩ := lko_raw ho l
    exact ⟨y, es, ep, _, d, r1, c⟩
  · have x := I.hok p _ e
    obtain ⟨o, ho⟩ : ∃ o, s.heap.get? p = some o := by obtain ⟨_, _, _, _, o, _, _, ho, _⟩ := x; exact ⟨o, ho⟩
    obtain ⟨y, qs, l, pr⟩ := lkd_of ho x
    obtain ⟨es, ep, d, r1, r2⟩ := lko_raw ho l
    exact ⟨y, es, ep, _, d, r1, c qs pr⟩
theorem dvals_at (I : L2.Inv X pins σ H s) {vs : List V} (h : DVals H p vs) : (p == sysModules) = false ∧ ∃ es ep, s.heap.DictRaw p es ep ∧ Vals vs (es.toList.map (·.val)) := by
  rcases h with ⟨o, u, ks, e, y, l⟩ | ⟨kvs, e, rfl⟩ | ⟨kvs, e, rfl⟩
  · obtain ⟨es, ep, d, r1, r2⟩ := lko_raw (I.hok p _ e).1 l
    exact ⟨y, es, ep, d, r2⟩
  · have x := I.hok p _ e
    obtain ⟨o, ho⟩ : ∃ o, s.heap.get? p = some o := by obtain ⟨_, _, _, _, o, _, _, ho, _⟩ := x; exact ⟨o, ho⟩
    obtain ⟨y, l⟩ := lkd_of ho x
    obtain ⟨es, ep, d, r1, r2⟩ := lko_raw ho l
    exact ⟨y, es, ep, d, r2⟩
  · have x := I.hok p _ e
    obtain ⟨o, ho⟩ : ∃ o, s.heap.get? p = some o := by obtain ⟨_, _, _, _, o, _, _, ho, _⟩ := x; exact ⟨o, ho⟩
    obtain ⟨y, qs, l, pr⟩ := lkd_of ho x
    obtain ⟨es, ep, d, r1, r2⟩ := lko_raw ho l
    exact ⟨y, es, ep, d, r2⟩
def valsO (q d : Addr) : HO := .ext fun h => h.IsValuesView q d
def Gives (X : Cx) (pins : List (Addr × Obj)) (σ : Sgm) (H : Hp) (s : Shared) (r : Addr) (ys : List V) : Prop := ∃ T d n P OK, Nonempty (PySem.W.KdlSrc X.prog X.w T r d n P OK) ∧ OK s.heap ∧ n = ys.length ∧ ∀ i v, P i v → ∃ y, ys[i]? = some y ∧ RelV y v
theorem gives_at {es : Array DictEntry} {ks : List V} {f : DictEntry → Value} (r : Vals ks (es.toList.map f)) : es.size = ks.length ∧ ∀ i v, (∃ hi : i < es.size, v = f es[i]) → ∃ y, ks[i]? = some y ∧ RelV y v := by
  have hl : ks.length = es.size := by
    have z := r.length
    rw [List.length_map, Array.length_toList] at z
    exact z
  refine ⟨hl.symm, fun i v ⟨hi, e⟩ => ?_⟩
  have hk : i < ks.length := by omega
  obtain ⟨u, e1, e2⟩ := r.get (List.getElem?_eq_getElem hk)
  rw [List.getElem?_map, Array.getElem?_toList, Array.getElem?_eq_getElem hi] at e1
  cases e1
  exact ⟨ks[i], List.getElem?_eq_getElem hk, by rw [e]; exact e2⟩
theorem gives_keys (I : L2.Inv X pins σ H s) {C : List V → Prop} (h : DKeys H p C) : ∃ ks, C ks ∧ Gives X pins σ H s p ks := by
  obtain ⟨y, es, ep, ks, raw, r, c⟩ := dkeys_at I h
  obtain ⟨z1, z2⟩ := gives_at (f := fun e => e.key) r
  exact ⟨ks, c, "dict", p, _, _, _, ⟨PySem.KdlSrc.rawDict y⟩, raw, z1, z2⟩
theorem gives_vals (I : L2.Inv X pins σ H s) {q : Addr} {vs : List V} (hq : H q = some (valsO q p)) (h : DVals H p vs) : Gives X pins σ H s q vs := by
  obtain ⟨y, es, ep, raw, r⟩ := dvals_at I h
  obtain ⟨z1, z2⟩ := gives_at (f := fun e => e.val) r
  exact ⟨"dict_values", p, _, _, _, ⟨PySem.KdlSrc.rawValues⟩, ⟨(I.hok q _ hq).1, raw⟩, z1, z2⟩
theorem vals_of {P : Nat → Value → Prop} {ys : List V} (h : ∀ i v, P i v → ∃ y, ys[i]? = some y ∧ RelV y v) {us : List Value} (hl : us.length = ys.length) (hu : ∀ j v, us[j]? = some v → P j v) : Vals ys us := by
  induction us generalizing ys P with
  | nil =>
    have : ys = [] := List.length_eq_zero_iff.mp hl.symm
    subst this
    exact .nil
  | cons u us ih =>
    cases ys with
    | nil => simp at hl
    | cons y ys =>
      obtain ⟨y', e, r⟩ := h 0 u (hu 0 u rfl)
      cases e
      exact .cons r (ih (P := fun i v => P (i + 1) v) (fun i v p => h (i + 1) v p) (by simpa using hl) fun j v e => hu (j + 1) v (by simpa using e))
theorem list_gives {r : Addr} {ys : List V} {Q : VK} (hc : X.calm = true) (I : L2.Inv X pins σ H s) (g : Gives X pins σ H s r ys) (hn : ys.length ≤ sizeLine) (q : ∀ l, H l = none → Q (.ref l) (upd H l (.lst ys))) :
    wpAny (model X.prog X.w) X.A (call (.type "list") [.ref r]) (EP X pins σ Q) X.xe s := by
  obtain ⟨T, d, n, P, OK, ⟨Kd⟩, ok, e, h⟩ := g
  subst e
  refine PySem.W.kdl_call Kd (I.ok.hd hc) ok hn fun h' tk acc c' keep at_ items => ?_
  have rel : Vals ys acc.toList := vals_of h (by rw [Array.length_toList]; exact items.1) fun j v e => items.2 j v (by rw [← Array.getElem?_toList]; exact e)
  refine ⟨.ref s.heap.objs.size, upd H s.heap.objs.size (.lst ys), I.laid (t' := tk) keep (Nat.le_refl _) ⟨hn, acc.toList, c', rel, ?_⟩, rfl, q _ (I.hok.fresh (Nat.le_refl _))⟩
  rw [at_]
theorem sorted_gives {r : Addr} {ys : List V} {ds : List PyData} {Q : VK} {PP : V → PyData → Prop} (hu : X.A.units + 200 < cLine) (hc : X.calm = true) (I : L2.Inv X pins σ H s) (g : Gives X pins σ H s r ys) (hr : RepAll H ys ds) (hP : Paired PP ys ds)
    (h1 : PySem.W.AllAlike ds) (h2 : PySem.W.Sortable ds) (h3 : ds.length ≤ 100000) (h4 : PyData.depthAll ds ≤ 150) (q : ∀ l us, H l = none → Paired PP us (sortD ds) → Q (.ref l) (upd H l (.lst us))) :
    wpAny (model X.prog X.w) X.A (call (.builtin "sorted") [.ref r]) (EP X pins σ Q) X.xe s := by
  obtain ⟨T, d, n, P, OK, ⟨Kd⟩, ok, e, h⟩ := g
  subst e
  have hn : ys.length ≤ sizeLine := by rw [hr.length, sizeLine_eq]; omega
  refine sorted_srcD (C := fun out => PySem.W.EachIs (fun u d => ∃ v, RelV v u ∧ PP v d) out (sortD ds)) Kd (I.ok.hd hc) ok hn (fun us hl hus => ?_) fun out h1 h2 tk L e eo ho k1 hL k2 at_ => ?_
  · have rel := vals_of h hl hus
    exact ⟨ds, _, each_of rel hP, each_reads I rel hr, h1, h2, fun b hb => by have := depth_le_all hb; omega, fun out z => z⟩
  · obtain ⟨ws, rw', hw⟩ := each_back eo
    have I1 : L2.Inv X pins σ H { s with heap := h1, toks := tk } := I.kept k1
    have hlen : ws.length ≤ sizeLine := by rw [rw'.length, ho]; exact hn
    exact ⟨.ref L, upd H L (.lst ws), I1.laid (t' := tk) k2 hL ⟨hlen, out, e, rw', at_⟩, rfl, q _ ws (I1.hok.fresh hL) hw⟩
end
end DL
namespace DL
open PySem PySem.Spec PyProof.Rows L2
section
variable {a : AS} {σ : Sgm} {F H : Hp} {fps : List (List Addr)}
theorem keys_repK {F : Hp} (ks : List (Key × V)) : RepAll F (ks.map fun k => kV k.1) (ks.map fun k => keyD k.1) := by
  induction ks with
  | nil => exact .nil
  | cons x _ ih =>
    refine .cons ?_ ih
    obtain ⟨k, v⟩ := x
    cases k with
    | inl i => exact .int i
    | inr y => exact .str y
theorem keys_repT {F H : Hp} (tp : ∀ b xs, H b = some (.tup xs) → F b = some (.tup xs)) : ∀ {qs : List V} {ks : List (List Key × V)}, Paired (fun (q : V) (k : List Key × V) => ∃ b, q = V.ref b ∧ H b = some (.tup (k.1.map kV))) qs ks →
    RepAll F qs (ks.map fun k => PyData.tuple (k.1.map keyD)) := by
  intro qs ks h
  induction h with
  | nil => exact .nil
  | @cons q k _ _ r _ ih =>
    obtain ⟨b, rfl, e⟩ := r
    refine .cons (.tup (tp _ _ e) ?_) ih
    have go : ∀ k : List Key, RepAll F (k.map kV) (k.map keyD) := by
      intro k
      induction k with
      | nil => exact .nil
      | cons x _ ih =>
        refine .cons ?_ ih
        cases x with
        | inl i => exact .int i
        | inr y => exact .str y
    exact go _
theorem dkeys_rep (x : AOk a σ F H fps) {r : Ev} {v : V} {kvs : List (D × D)} (h : ValOk F H fps r v) (e : dvw a r = some kvs) (ko : KeysOk kvs ∨ r = .d (.dict kvs)) : ∃ p C, v = .ref p ∧ DKeys H p C ∧ ∀ ks, C ks → RepAll F ks (kvs.map (·.1)) := by
  have own : ∀ p, DcOk F H p kvs → (KeysOk kvs) → ∃ C, DKeys H p C ∧ ∀ ks, C ks → RepAll F ks (kvs.map (·.1)) := fun p d ko => by
    rcases d with ⟨ks, e, m, r⟩ | ⟨ks, e, m, r⟩ | ⟨_, _, _, _, _, z, _⟩
    · exact ⟨fun k => k = ks.map fun k => kV k.1, .inr (.inl ⟨ks, e, rfl⟩), fun k ek => by rw [ek, m]; exact keys_repK ks⟩
    · exact ⟨fun qs => Paired _ qs ks, .inr (.inr ⟨ks, e, fun qs z => z⟩), fun qs z => by rw [m]; exact keys_repT x.tp z⟩
    · exact (ko.no z).elim
  have lk : ∀ p o, DcLk F H p o kvs → ∃ C, DKeys H p C ∧ ∀ ks, C ks → RepAll F ks (kvs.map (·.1)) := fun p o d => by
    rcases d with ⟨ks, e, y, l, m, r⟩ | ⟨ks, qs, e, y, l, m, q, r⟩
    · exact ⟨fun k => k = ks.map fun k => kV k.1, .inl ⟨_, _, _, _, e, y, l, rfl⟩, fun k ek => by rw [ek, m]; exact keys_repK ks⟩
    · exact ⟨fun k => k = qs, .inl ⟨_, _, _, _, e, y, l, rfl⟩, fun k ek => by rw [ek]; exact q⟩
  cases r with
  | d y =>
    cases y with
    | dict ds =>
      cases e
      obtain ⟨p, o, u, ks, vs, rfl, f, y, l, r1, r2⟩ := Rep.raw h
      exact ⟨p, fun k => k = ks, rfl, .inl ⟨o, u, ks, vs, x.sub _ _ f, y, l, rfl⟩, fun k ek => by rw [ek]; exact r1⟩
    | _ => cases e
  | nd ds =>
    cases e
    obtain ⟨p, rfl, d, _⟩ := h
    obtain ⟨C, z1, z2⟩ := own p d (ko.elim id fun z => by cases z)
    exact ⟨p, C, rfl, z1, z2⟩
  | o k =>
    obtain ⟨p, ps, rfl, hk⟩ := h
    unfold dvw at e
    simp only at e
    split at e
    · rename_i ds hx
      cases e
      obtain ⟨q, e1, hq⟩ := own_at x hk hx
      cases e1
      obtain ⟨C, z1, z2⟩ := own p hq (ko.elim id fun z => by cases z)
      exact ⟨p, C, rfl, z1, z2⟩
    · rename_i o ds hx
      cases e
      obtain ⟨q, e1, hq⟩ := own_at x hk hx
      cases e1
      obtain ⟨C, z1, z2⟩ := lk p o hq
      exact ⟨p, C, rfl, z1, z2⟩
    · cases e
  | nl _ => cases e
  | v _ => cases e
  | er _ => cases e
theorem dvals_rep (x : AOk a σ F H fps) {r : Ev} {v : V} {kvs : List (D × D)} (h : ValOk F H fps r v) (e : dvw a r = some kvs) (ko : KeysOk kvs ∨ r = .d (.dict kvs)) : ∃ p vs, v = .ref p ∧ DVals H p vs ∧ RepAll F vs (kvs.map (·.2)) := by
  have own : ∀ p, DcOk F H p kvs → (KeysOk kvs) → ∃ vs, DVals H p vs ∧ RepAll F vs (kvs.map (·.2)) := fun p d ko => by
    rcases d with ⟨ks, e, m, r⟩ | ⟨ks, e, m, r⟩ | ⟨_, _, _, _, _, z, _⟩
    · exact ⟨_, .inr (.inl ⟨ks, e, rfl⟩), r⟩
    · exact ⟨_, .inr (.inr ⟨ks, e, rfl⟩), r⟩
    · exact (ko.no z).elim
  have lk : ∀ p o, DcLk F H p o kvs → ∃ vs, DVals H p vs ∧ RepAll F vs (kvs.map (·.2)) := fun p o d => by
    rcases d with ⟨ks, e, y, l, m, r⟩ | ⟨ks, qs, e, y, l, m, q, r⟩
    · exact ⟨_, .inl ⟨_, _, _, e, y, l⟩, r⟩
    · exact ⟨_, .inl ⟨_, _, _, e, y, l⟩, r⟩
  cases r with
  | d y =>
    cases y with
    | dict ds =>
      cases e
      obtain ⟨p, o, u, ks, vs, rfl, f, y, l, r1, r2⟩ := Rep.raw h
      exact ⟨p, vs, rfl, .inl ⟨o, u, ks, x.sub _ _ f, y, l⟩, r2⟩
    | _ => cases e
  | nd ds =>
    cases e
    obtain ⟨p, rfl, d, _⟩ := h
    obtain ⟨vs, z1, z2⟩ := own p d (ko.elim id fun z => by cases z)
    exact ⟨p, vs, rfl, z1, z2⟩
  | o k =>
    obtain ⟨p, ps, rfl, hk⟩ := h
    unfold dvw at e
    simp only at e
    split at e
    · rename_i ds hx
      cases e
      obtain ⟨q, e1, hq⟩ := own_at x hk hx
      cases e1
      obtain ⟨vs, z1, z2⟩ := own p hq (ko.elim id fun z => by cases z)
      exact ⟨p, vs, rfl, z1, z2⟩
    · rename_i o ds hx
      cases e
      obtain ⟨q, e1, hq⟩ := own_at x hk hx
      cases e1
      obtain ⟨vs, z1, z2⟩ := lk p o hq
      exact ⟨p, vs, rfl, z1, z2⟩
    · cases e
  | nl _ => cases e
  | v _ => cases e
  | er _ => cases e
end
theorem CallR.or2 {X : Cx} {f : Value} {r r' : List V → Hp → VK → Prop} (h : CallR X f r) (h' : CallR X f r') : CallR X f (fun xs H Q => r xs H Q ∨ r' xs H Q) := by
  intro pins s σ H xs us Q I rx q
  rcases q with q | q
  · exact h pins s σ H xs us Q I rx q
  · exact h' pins s σ H xs us Q I rx q
section
variable {X : Cx}
def rListK : List V → Hp → VK → Prop := fun xs H Q => ∃ (p : Addr) (C : List V → Prop), xs = [.ref p] ∧ DKeys H p C ∧ ∀ ks, C ks → ks.length ≤ sizeLine ∧ ∀ l, H l = none → Q (.ref l) (upd H l (.lst ks))
def dOk (r : Ev) (kvs : List (D × D)) : Prop := KeysOk kvs ∨ r = .d (.dict kvs)
def gListA : GC := fun a xs K => match xs with
  | [x] => match dvw a x with
    | some kvs => dOk x kvs ∧ kvs.length ≤ 100000 ∧ K (.nl (kvs.map (·.1)))
    | none => gList a [x] K
  | _ => False
theorem d_listA (hc : X.calm = true) : CallR X (.type "list") (fun xs H Q => rListS xs H Q ∨ rListK xs H Q) ∧ RCS (fun xs H Q => rListS xs H Q ∨ rListK xs H Q) gListA := ⟨CallR.or2 d_list.1 (by
  intro pins s σ H xs us Q I r h
  obtain ⟨p, C, rfl, dk, q⟩ := h
  rw [Vals.ref1 r]
  obtain ⟨ks, c, g⟩ := gives_keys I dk
  obtain ⟨hn, q⟩ := q ks c
  exact list_gives hc I g hn q), by
  intro a σ F H fps xs vs ok hv Kz k Q q
  match xs, k with
  | [x], k =>
    unfold gListA at k
    simp only at k
    cases e : dvw a x with
    | none => rw [e] at k; exact .inl ((d_list (X := X)).2 a σ F H fps [x] vs ok hv Kz k Q q)
    | some kvs =>
      rw [e] at k
      obtain ⟨ko, hl, k⟩ := k
      obtain ⟨v, rfl, h⟩ := vals_one hv
      obtain ⟨p, C, rfl, dk, rep⟩ := dkeys_rep ok h e ko
      refine .inr ⟨p, C, rfl, dk, fun ks c => ?_⟩
      have r := rep ks c
      refine ⟨by rw [r.length, List.length_map, sizeLine_eq]; omega, fun l hl => ?_⟩
      exact q _ _ _ _ k (ok.newH hl) (Le.newH hl) ⟨l, ks, rfl, upd_same, ok.sub.gone hl, ok.fresh hl, r⟩ fun p' e' => by cases e'; exact hl⟩
def rSortK : List V → Hp → VK → Prop := fun xs H Q => ∃ (p : Addr) (C : List V → Prop), xs = [.ref p] ∧ DKeys H p C ∧ ∀ ks, C ks → ∃ (ds : List PyData) (PP : V → PyData → Prop), RepAll H ks ds ∧ Paired PP ks ds ∧
  PySem.W.AllAlike ds ∧ PySem.W.Sortable ds ∧ ds.length ≤ 100000 ∧ PyData.depthAll ds ≤ 150 ∧ ∀ l us, H l = none → Paired PP us (sortD ds) → Q (.ref l) (upd H l (.lst us))
def gSortA : GC := fun a xs K => match xs with
  | [x] => match dvw a x with
    | some kvs => dOk x kvs ∧ PySem.W.AllAlike (kvs.map (·.1)) ∧ PySem.W.Sortable (kvs.map (·.1)) ∧ (kvs.map (·.1)).length ≤ 100000 ∧ PyData.depthAll (kvs.map (·.1)) ≤ 150 ∧ K (.nl (sortD (kvs.map (·.1))))
    | none => gSort a [x] K
  | _ => False
theorem d_sortedA (hu : X.A.units + 200 < cLine) (hc : X.calm = true) : CallR X (.builtin "sorted") (fun xs H Q => rSortD xs H Q ∨ rSortK xs H Q) ∧ RCS (fun xs H Q => rSortD xs H Q ∨ rSortK xs H Q) gSortA := ⟨CallR.or2 (d_sorted hu).1 (by
  intro pins s σ H xs us Q I r h
  obtain ⟨p, C, rfl, dk, q⟩ := h
  rw [Vals.ref1 r]
  obtain ⟨ks, c, g⟩ := gives_keys I dk
  obtain ⟨ds, PP, z1, z2, z3, z4, z5, z6, z7⟩ := q ks c
  exact sorted_gives hu hc I g z1 z2 z3 z4 z5 z6 z7), by
  intro a σ F H fps xs vs ok hv Kz k Q q
  match xs, k with
  | [x], k =>
    unfold gSortA at k
    simp only at k
    cases e : dvw a x with
    | none => rw [e] at k; exact .inl ((d_sorted hu).2 a σ F H fps [x] vs ok hv Kz k Q q)
    | some kvs =>
      rw [e] at k
      obtain ⟨ko, z3, z4, z5, z6, k⟩ := k
      obtain ⟨v, rfl, h⟩ := vals_one hv
      obtain ⟨p, C, rfl, dk, rep⟩ := dkeys_rep ok h e ko
      refine .inr ⟨p, C, rfl, dk, fun ks c => ?_⟩
      have r := rep ks c
      refine ⟨kvs.map (·.1), fun v d => Rep F v d, r.mono ok.sub, repAll_paired r, z3, z4, z5, z6, fun l ws hl hw => ?_⟩
      exact q _ _ _ _ k (ok.newH hl) (Le.newH hl) ⟨l, ws, rfl, upd_same, ok.sub.gone hl, ok.fresh hl, paired_repAll hw⟩ fun p' e' => by cases e'; exact hl⟩
variable {E : XK} {e : Expr} {te : TE} {we : WE} {apos cpos p pos : Pos}
def tView (te : TE) : TE := fun σ H Q => te σ H fun x H1 => ∃ d vs, x = .ref d ∧ DVals H1 d vs ∧ ∀ q, H1 q = none → Q (.ref q) (upd H1 q (valsO q d))
theorem pe_view (he : PE X e te) (hbase : attributeBase e "values" X.env (eval e X.env) = eval e X.env := by rfl) (hline : (apos.endLine == cpos.line) = true := by rfl) : PE X (.Call (.Attribute e "values" apos) [] [] cpos) (tView te) := by
  refine ⟨fun pins s σ H Q I h => ?_⟩
  refine wpAny_Call_method (T := "dict") (id := "dict.values") hbase rfl hline PySem.F.plainAttrs_dict PySem.F.slot_dict_values PySem.F.type_dict_values (thn (he.run pins s σ H _ I h) fun v s1 ⟨x, H1, I1, rx, d, vs, ex, dv, q⟩ => ?_)
  subst ex
  obtain rfl : v = Value.ref d := rx
  obtain ⟨hs, es, ep, raw, _⟩ := dvals_at I1 dv
  refine ⟨raw.typeIs, fun b eb => (by cases eb; obtain ⟨o, ho, hx, _⟩ := id raw; exact ⟨o, ho, hx.2.1⟩), ?_⟩
  show wpAny _ _ (callWith cpos (.builtin "dict.values") [.ref d] [] []) _ X.xe s1
  refine method_meetsIn PySem.F.slot_dict_values PySem.F.entry_dict_values rfl (PySem.evalArgs_none ⟨rfl, raw.typeIs, PySem.F.args_dict_values_1 _, _, meets_dict_values_raw d hs, ⟨es, ep, raw⟩, ?_⟩)
  have new : ObjOk X.prog X.w (upd H1 s1.heap.objs.size (valsO s1.heap.objs.size d)) (s1.heap.push { cls := .type "dict_values", data := .fields #[.ref d] }) s1.heap.objs.size (valsO s1.heap.objs.size d) :=
    ⟨⟨_, Heap.get?_push_size _ rfl, rfl, rfl⟩, ⟨_, Heap.get?_push_size _ rfl⟩, fun h1 h2 ⟨o, ho, hr⟩ k => ⟨o, k o ho, hr⟩⟩
  exact ⟨.ref s1.heap.objs.size, _, I1.laid (t' := s1.toks) (fun b ob q => Heap.get?_push_of_some _ q) (Nat.le_refl _) new, rfl, q _ (I1.hok.fresh (Nat.le_refl _))⟩
def rListV : List V → Hp → VK → Prop := fun xs H Q => ∃ (q d : Addr) (vs : List V), xs = [.ref q] ∧ H q = some (valsO q d) ∧ DVals H d vs ∧ vs.length ≤ sizeLine ∧ ∀ l, H l = none → Q (.ref l) (upd H l (.lst vs))
theorem cr_listV (hc : X.calm = true) : CallR X (.type "list") rListV := by
  intro pins s σ H xs us Q I r h
  obtain ⟨q, d, vs, rfl, hq, dv, hn, k⟩ := h
  rw [Vals.ref1 r]
  exact list_gives hc I (gives_vals I hq dv) hn k
def rSortV : List V → Hp → VK → Prop := fun xs H Q => ∃ (q d : Addr) (vs : List V) (ds : List PyData) (PP : V → PyData → Prop), xs = [.ref q] ∧ H q = some (valsO q d) ∧ DVals H d vs ∧ RepAll H vs ds ∧ Paired PP vs ds ∧
  PySem.W.AllAlike ds ∧ PySem.W.Sortable ds ∧ ds.length ≤ 100000 ∧ PyData.depthAll ds ≤ 150 ∧ ∀ l us, H l = none → Paired PP us (sortD ds) → Q (.ref l) (upd H l (.lst us))
theorem cr_sortV (hu : X.A.units + 200 < cLine) (hc : X.calm = true) : CallR X (.builtin "sorted") rSortV := by
  intro pins s σ H xs us Q I r h
  obtain ⟨q, d, vs, ds, PP, rfl, hq, dv, z1, z2, z3, z4, z5, z6, z7⟩ := h
  rw [Vals.ref1 r]
  exact sorted_gives hu hc I (gives_vals I hq dv) z1 z2 z3 z4 z5 z6 z7
theorem DVals.mono {H H' : Hp} {p : Addr} {vs : List V} (h : ∀ o, H p = some o → H' p = some o) (d : DVals H p vs) : DVals H' p vs := by
  rcases d with ⟨o, u, ks, e, y, l⟩ | ⟨ks, e, r⟩ | ⟨ks, e, r⟩
  · exact .inl ⟨o, u, ks, h _ e, y, l⟩
  · exact .inr (.inl ⟨ks, h _ e, r⟩)
  · exact .inr (.inr ⟨ks, h _ e, r⟩)
theorem DVals.there {H : Hp} {p : Addr} {vs : List V} (d : DVals H p vs) : ∃ o, H p = some o := by
  rcases d with ⟨o, u, ks, e, y, l⟩ | ⟨ks, e, r⟩ | ⟨ks, e, r⟩ <;> exact ⟨_, e⟩
def wListV (we : WE) : WE := fun a K B => we a (fun r a1 => ∃ kvs, dvw a1 r = some kvs ∧ dOk r kvs ∧ kvs.length ≤ 100000 ∧ K (.nl (kvs.map (·.2))) a1) B
theorem de_listV (hc : X.calm = true) (h : DE X E e te we) (hg : Gl X "list") (hm : X.mg "list" = none) (hbase : attributeBase e "values" X.env (eval e X.env) = eval e X.env := by rfl) (hline : (apos.endLine == cpos.line) = true := by rfl)
    (he : starEach [.Call (.Attribute e "values" apos) [] [] cpos] X.env = (false, eval (.Call (.Attribute e "values" apos) [] [] cpos) X.env) :: starEach [] X.env := by rfl) (hpl : (backTo pos (starEach [] X.env)).any (·.1) = false := by rfl) :
    DE X E (.Call (.Name "list" p) [.Call (.Attribute e "values" apos) [] [] cpos] [] pos) (tCB rListV (tCons (tView te) tNil)) (wListV we) :=
  ⟨pe_callTy (cr_listV hc) hg hm (by decide +kernel) (pa_cons (pe_view h.pe hbase hline) pa_nil he) (by decide) (by decide) he hpl, by
  intro a K B k σ F H fps x Q q b
  refine h.so a _ B k σ F H fps x _ (fun r1 a1 v1 F1 H1 ⟨kvs, e1, ko, hl, k1⟩ n1 x1 l1 o1 w1 => ?_) b
  obtain ⟨d, vs, rfl, dv, rep⟩ := dvals_rep x1 o1 e1 ko
  refine ⟨d, vs, rfl, dv, fun q' hq => ?_⟩
  obtain ⟨o, ho⟩ := dv.there
  have nqd : d ≠ q' := fun z => by rw [z, hq] at ho; cases ho
  refine ⟨q', d, vs, rfl, upd_same, dv.mono fun o e => by rw [upd_ne nqd]; exact e, by rw [rep.length, List.length_map, sizeLine_eq]; omega, fun l hl => ?_⟩
  have x2 := x1.newH (o := valsO q' d) hq (fun _ z => nomatch z)
  exact q _ a1 _ _ _ k1 n1 (x2.newH hl) ((l1.trans (Le.newH hq)).trans (Le.newH hl)) ⟨l, vs, rfl, upd_same, x2.sub.gone hl, x2.fresh hl, rep⟩ fun p' e' => by cases e'; exact (l1.trans (Le.newH hq)).ex _ hl⟩
def wSortV (we : WE) : WE := fun a K B => we a (fun r a1 => ∃ kvs, dvw a1 r = some kvs ∧ dOk r kvs ∧ PySem.W.AllAlike (kvs.map (·.2)) ∧ PySem.W.Sortable (kvs.map (·.2)) ∧ (kvs.map (·.2)).length ≤ 100000 ∧ PyData.depthAll (kvs.map (·.2)) ≤ 150 ∧ K (.nl (sortD (kvs.map (·.2)))) a1) B
theorem de_sortV (hu : X.A.units + 200 < cLine) (hc : X.calm = true) (h : DE X E e te we) (hg : Gl X "sorted") (hm : X.mg "sorted" = none) (hbase : attributeBase e "values" X.env (eval e X.env) = eval e X.env := by rfl) (hline : (apos.endLine == cpos.line) = true := by rfl)
    (he : starEach [.Call (.Attribute e "values" apos) [] [] cpos] X.env = (false, eval (.Call (.Attribute e "values" apos) [] [] cpos) X.env) :: starEach [] X.env := by rfl) (hpl : (backTo pos (starEach [] X.env)).any (·.1) = false := by rfl) :
    DE X E (.Call (.Name "sorted" p) [.Call (.Attribute e "values" apos) [] [] cpos] [] pos) (tCB rSortV (tCons (tView te) tNil)) (wSortV we) :=
  ⟨pe_callB (cr_sortV hu hc) hg hm (by decide +kernel) (pa_cons (pe_view h.pe hbase hline) pa_nil he) (by decide) (by decide) he hpl, by
  intro a K B k σ F H fps x Q q b
  refine h.so a _ B k σ F H fps x _ (fun r1 a1 v1 F1 H1 ⟨kvs, e1, ko, z1, z2, z3, z4, k1⟩ n1 x1 l1 o1 w1 => ?_) b
  obtain ⟨d, vs, rfl, dv, rep⟩ := dvals_rep x1 o1 e1 ko
  refine ⟨d, vs, rfl, dv, fun q' hq => ?_⟩
  obtain ⟨o, ho⟩ := dv.there
  have nqd : d ≠ q' := fun z => by rw [z, hq] at ho; cases ho
  have x2 := x1.newH (o := valsO q' d) hq (fun _ z => nomatch z)
  refine ⟨q', d, vs, _, fun v d => Rep F1 v d, rfl, upd_same, dv.mono fun o e => by rw [upd_ne nqd]; exact e, rep.mono x2.sub, repAll_paired rep, z1, z2, z3, z4, fun l ws hl hw => ?_⟩
  exact q _ a1 _ _ _ k1 n1 (x2.newH hl) ((l1.trans (Le.newH hq)).trans (Le.newH hl)) ⟨l, ws, rfl, upd_same, x2.sub.gone hl, x2.fresh hl, paired_repAll hw⟩ fun p' e' => by cases e'; exact (l1.trans (Le.newH hq)).ex _ hl⟩
def rLenDc : List V → Hp → VK → Prop := fun xs H Q => ∃ (p : Addr) (vs : List V), xs = [.ref p] ∧ DVals H p vs ∧ vs.length ≤ sizeLine ∧ Q (.int vs.length) H
theorem cr_lenDc : CallR X (.builtin "len") rLenDc := by
  intro pins s σ H xs us Q I r h
  obtain ⟨p, vs, rfl, dv, hn, q⟩ := h
  rw [Vals.ref1 r]
  obtain ⟨hs, es, ep, raw, rv⟩ := dvals_at I dv
  have hl : es.size = vs.length := by
    have z := rv.length
    rw [List.length_map, Array.length_toList] at z
    exact z.symm
  refine PyProof.Rows.call_len_slot (n := es.size) raw.typeIs PySem.F.slot_dict_len (fun Q' hq => call_len_raw hs raw hq) (by rw [sizeLine_eq] at hn; omega) (by rw [sizeLine_eq] at hn; omega) ?_
  exact ⟨.int vs.length, H, I.tok _, ⟨_, by rw [hl]⟩, q⟩
def gLenA : GC := fun a xs K => match xs with
  | [x] => match dvw a x with
    | some kvs => dOk x kvs ∧ kvs.length ≤ 100000 ∧ K (.d (.int (kvs.length : Nat)))
    | none => gLen a [x] K
  | _ => False
theorem d_lenA : CallR X (.builtin "len") (fun xs H Q => rLenS xs H Q ∨ rLenDc xs H Q) ∧ RCS (fun xs H Q => rLenS xs H Q ∨ rLenDc xs H Q) gLenA := ⟨CallR.or2 d_len.1 cr_lenDc, by
  intro a σ F H fps xs vs ok hv Kz k Q q
  match xs, k with
  | [x], k =>
    unfold gLenA at k
    simp only at k
    cases e : dvw a x with
    | none => rw [e] at k; exact .inl ((d_len (X := X)).2 a σ F H fps [x] vs ok hv Kz k Q q)
    | some kvs =>
      rw [e] at k
      obtain ⟨ko, hl, k⟩ := k
      obtain ⟨v, rfl, h⟩ := vals_one hv
      obtain ⟨p, us, rfl, dv, rep⟩ := dvals_rep ok h e ko
      have z := rep.length
      rw [List.length_map] at z
      refine .inr ⟨p, us, rfl, dv, by rw [z, sizeLine_eq]; omega, ?_⟩
      rw [z]
      exact q _ _ F H k ok (Le.refl _ _ _) (.int _) trivial⟩
end
end DL
namespace DL
open PySem PySem.Spec PyProof.Rows L2
inductive Ex where
  | non | bl (b : Bool) | str (x : Str)
  deriving DecidableEq
namespace Ex
def leaf : Ex → Leaf
  | .non => .none
  | .bl true => .num 1
  | .bl false => .num 0
  | .str x => .text x
def is : Ex → Value → Bool
  | .non, .none => true
  | .bl b, .bool c => b == c
  | .str x, v => Value.isStrOf x v
  | _, _ => false
theorem to_leaf {k : Ex} {v : Value} (h : is k v = true) : Leaf.isOf k.leaf v = true := by
  cases k with
  | non => cases v <;> first | rfl | cases h
  | bl b => cases v with
    | bool c => cases b <;> cases c <;> first | rfl | cases h
    | _ => cases h
  | str x => exact h
theorem leaf_inj {a b : Ex} (h : a.leaf = b.leaf) : a = b := by
  cases a with
  | non => cases b with
    | non => rfl
    | bl c => cases c <;> cases h
    | str y => cases h
  | bl c => cases b with
    | non => cases c <;> cases h
    | bl d => cases c <;> cases d <;> first | rfl | cases h
    | str y => cases c <;> cases h
  | str x => cases b with
    | non => cases h
    | bl c => cases c <;> cases h
    | str y => cases h; rfl
def v : Ex → V
  | .non => .non
  | .bl b => .bl b
  | .str x => .str x
def d : Ex → PyData
  | .non => .none
  | .bl b => .bool b
  | .str x => .str x
theorem rel {k : Ex} {u : Value} (h : is k u = true) : RelV k.v u := by
  cases k with
  | non => cases u <;> first | rfl | cases h
  | bl b => cases u with
    | bool c =>
      have : b = c := by cases b <;> cases c <;> first | rfl | cases h
      subst this; rfl
    | _ => cases h
  | str x =>
    obtain ⟨t, rfl⟩ := Value.isStrOf_shape (show Value.isStrOf x u = true from h)
    exact ⟨t, rfl⟩
theorem of_rel {k : Ex} {u : Value} (h : RelV k.v u) : is k u = true := by
  cases k with
  | non => cases h; rfl
  | bl b => cases h; cases b <;> rfl
  | str x =>
    obtain ⟨t, rfl⟩ := h
    show Value.isStrOf x (.str x t) = true
    simp [Value.isStrOf]
theorem rep {F : Hp} (k : Ex) : Rep F k.v k.d := by
  cases k with
  | non => exact .non
  | bl b => exact .bl b
  | str x => exact .str x
theorem of_rep {F : Hp} {k : Ex} {v : V} (h : Rep F v k.d) : v = k.v := by
  cases k <;> cases h <;> rfl
end Ex
def exKind (prog : Program) (w : World) : KeyKind prog w Ex where
  is := Ex.is
  hash := fun k => (leafKind prog w).hash k.leaf
  inj := fun v a b ha hb => Ex.leaf_inj ((leafKind prog w).inj v _ _ (Ex.to_leaf ha) (Ex.to_leaf hb))
  byValue := fun k v h => (leafKind prog w).byValue _ _ (Ex.to_leaf h)
  pyHash := fun h q => (leafKind prog w).pyHash (Ex.to_leaf h) q
  eqBool := fun {A E s a b u v Q} ha hb q => (leafKind prog w).eqBool (Ex.to_leaf ha) (Ex.to_leaf hb) (by
    have : decide (a.leaf = b.leaf) = decide (a = b) := by
      by_cases h : a = b
      · subst h; simp
      · rw [decide_eq_false h, decide_eq_false fun z => h (Ex.leaf_inj z)]
    rw [this]; exact q)
  «strs» := fun k x t v h => by
    cases k with
    | non => cases h
    | bl b => cases h
    | str y => exact (leafKind prog w).strs (.text y) x t v h
def RawO (p : Addr) (ks vs : List V) : HO := .ext fun h => (p == sysModules) = false ∧ ∃ o, h.get? p = some o ∧ LkO o ks vs
theorem rawO_ok {P : Program} {w : World} {H : Hp} {h : Heap} {p : Addr} {o : Obj} {ks vs : List V} (y : (p == sysModules) = false) (g : h.get? p = some o) (l : LkO o ks vs) : ObjOk P w H h p (RawO p ks vs) :=
  ⟨⟨y, o, g, l⟩, ⟨o, g⟩, fun h1 h2 ⟨y, o, g, l⟩ k => ⟨y, o, k o g, l⟩⟩
theorem rawO_fact {p : Addr} {ks vs : List V} : ∀ h o, (fun h : Heap => (p == sysModules) = false ∧ ∃ o, h.get? p = some o ∧ LkO o ks vs) h → h.get? p = some o → (p == sysModules) = false ∧ LkO o ks vs := fun h o ⟨y, o', g, l⟩ e => by
  rw [g] at e; cases e; exact ⟨y, l⟩
theorem lko_ex {P : Program} {w : World} {h : Heap} {a : Addr} : ∀ {kvs : List (Ex × V)} {vs : List (Ex × Value)}, KV kvs vs → h.DictOf (exKind P w) a vs → ∃ o, h.get? a = some o ∧ LkO o (kvs.map fun k => k.1.v) (kvs.map (·.2)) := by
  intro kvs vs kv ⟨o, es, ep, g, ex, d, _, pr, _⟩
  refine ⟨o, g, ex, es, ep, d, ?_, ?_⟩
  · have go : ∀ {es : List DictEntry} {ks : List (Ex × V)} {vs : List (Ex × Value)}, KV ks vs → Pairs (exKind P w) es vs → Vals (ks.map fun k => k.1.v) (es.map (·.key)) := by
      intro es ks vs kv
      induction kv generalizing es with
      | nil => intro pr; cases pr; exact .nil
      | cons r _ ih =>
        intro pr
        cases pr with
        | cons h1 h2 pr => exact .cons (by
            have e := r.1
            show RelV (Ex.v _) _
            rw [e]; exact Ex.rel h1) (ih pr)
    exact go kv pr
  · have go : ∀ {es : List DictEntry} {ks : List (Ex × V)} {vs : List (Ex × Value)}, KV ks vs → Pairs (exKind P w) es vs → Vals (ks.map (·.2)) (es.map (·.val)) := by
      intro es ks vs kv
      induction kv generalizing es with
      | nil => intro pr; cases pr; exact .nil
      | cons r _ ih =>
        intro pr
        cases pr with
        | cons h1 h2 pr =>
          refine .cons ?_ (ih pr)
          have z := r.2
          rw [← h2] at z
          exact z
    exact go kv pr
def DPutX (H : Hp) (p : Addr) (y v : V) (H' : Hp) : Prop := DPutA H p y v H' ∨ (H p = some (.dK []) ∧ ∃ k : Ex, y = k.v ∧ H' = upd H p (RawO p [k.v] [v]))
def PutAll (p : Addr) : List (V × V) → Hp → (Hp → Prop) → Prop
  | [], H, Q => Q H
  | (y, z) :: r, H, Q => ∃ H1, DPutX H p y z H1 ∧ PutAll p r H1 Q
section
variable {X : Cx} {pins : List (Addr × Obj)} {σ : Sgm} {H : Hp} {s : Shared} {p : Addr} {y v : V} {u r : Value}
theorem d_dictSetX {H' : Hp} {Q : Unit → Shared → Prop} (hu : X.A.units + 200 < cLine) (I : L2.Inv X pins σ H s) (g : DPutX H p y v H') (ry : RelV y u) (rv : RelV v r) (h : ∀ s', L2.Inv X pins σ H' s' → Q () s') :
    wpAny (model X.prog X.w) X.A (dictSet p u r) Q X.xe s := by
  rcases g with g | ⟨e, k, rfl, rfl⟩
  · exact d_dictSetA hu I g ry rv h
  · obtain ⟨hd, ⟨ob, es, ep, h1, h2, h3, h4, h5, h6⟩, _⟩ := dict_empty I (.inl (.inl e))
    have he : es.toList = [] := by
      generalize es.toList = l at h5
      cases h5; rfl
    have none' : PySem.KeysOf (exKind X.prog X.w) es := fun e he' => by
      have : e ∈ es.toList := Array.mem_toList_iff.mpr he'
      rw [he] at this; cases this
    have d1 : s.heap.DictOf (exKind X.prog X.w) p [] := ⟨ob, es, ep, h1, h2, h3, none', by rw [he]; exact .nil, List.nodup_nil⟩
    refine wpAny_dictSet_pairs (hsz := Nat.zero_le _) (Ex.of_rel ry) d1 fun h' dd' hs => h _ ?_
    obtain ⟨o, g, l⟩ := lko_ex (kvs := [(k, v)]) (.cons ⟨rfl, rv⟩ .nil) dd'
    exact d_write I (by rw [e]; trivial) hs ⟨o, g⟩ (rawO_ok hd g l)
theorem stores (hu : X.A.units + 200 < cLine) {Qh : Hp → Prop} {Q : PUnit → Shared → Prop} (q : ∀ H' s', L2.Inv X pins σ H' s' → Qh H' → Q PUnit.unit s') {ps : List (V × V)} {vs : List (Value × Value)} (r : VV ps vs) : ∀ {H : Hp} {s : Shared}, L2.Inv X pins σ H s → PutAll p ps H Qh →
    wpAny (model X.prog X.w) X.A (forIn vs PUnit.unit fun (x : Value × Value) (_ : PUnit) => (do dictSet p x.1 x.2; pure (ForInStep.yield PUnit.unit) : Sem (ForInStep PUnit))) Q X.xe s := by
  induction r with
  | nil =>
    intro H s I pa
    rw [List.forIn_nil]
    exact wpAny_pure (q H s I pa)
  | cons h t ih =>
    intro H s I pa
    obtain ⟨H1, g, pa⟩ := pa
    rw [List.forIn_cons]
    exact wpAny_bind (wpAny_bind (d_dictSetX hu I g h.1 h.2 fun s1 I1 => wpAny_pure (ih I1 pa)))
def tDispA (trs : List (TE × TE)) : TE := fun σ H Q => ∀ p, H p = none → tPairs trs σ (upd H p (.dK [])) fun ps H2 => PutAll p ps H2 fun H3 => Q (.ref p) H3
theorem pe_dispA {pos : Pos} {keys : List (Option Expr)} {values : List Expr} {trs : List (TE × TE)} (hu : X.A.units + 200 < cLine) (h : PPs X pos keys values trs) (hall : keys.all (·.isSome) = true) (hl : keys.length = values.length) (h0 : keys ≠ [])
    (h15 : keys.length ≤ 15) : PE X (.Dict keys values pos) (tDispA trs) := by
  refine ⟨fun pins s σ H Q I q => ?_⟩
  have len := pairTrees_length keys values X.env pos hall hl
  have ne : pairTrees keys values X.env pos ≠ [] := fun e => by rw [e] at len; exact h0 (List.length_eq_zero_iff.mp len.symm)
  rw [arm_eval_Dict, zip_pairTrees keys values X.env pos hall hl, dictDisplay_pairs _ ne (by rw [len]; omega)]
  have I1 := I.laid (a := s.heap.objs.size) (o := .dK []) (h' := s.heap.push { cls := .type "dict", data := .dict #[] }) (t' := s.toks) (fun _ _ q => Heap.get?_push_of_some _ q) (Nat.le_refl _) (dk_empty s.heap I.big)
  refine wpAny_bind (wpAny_standAt (wpAny_bind ?_))
  unfold subDict
  refine wpAny_bind (wpAny_alloc (wpAny_bind (wpAny_holding ?_)))
  rw [if_pos (by rw [len]; exact h15)]
  refine wpAny_bind (thn (h.run pins _ σ _ _ I1 (q _ (I.hok.fresh (Nat.le_refl _)))) fun ws s2 ⟨ps, H2, I2, rel, pa⟩ => ?_)
  refine wpAny_holding (wpAny_bind (stores hu (fun H3 s3 I3 q3 => ?_) rel I2 pa))
  exact wpAny_pure (wpAny_pure (wpAny_pure ⟨.ref s.heap.objs.size, H3, I3, rfl, q3⟩))
end
end DL
namespace DL
open PySem PySem.Spec PyProof.Rows L2
abbrev WPs := AS → (List (D × D) → AS → Prop) → (XD → AS → Prop) → Prop
def PRep (F : Hp) : List (V × V) → List (D × D) → Prop := Paired fun p q => Rep F p.1 q.1 ∧ Rep F p.2 q.2
def SndPs (E : XK) (trs : List (TE × TE)) (w : WPs) : Prop :=
  ∀ a K B, w a K B → ∀ σ F H fps, AOk a σ F H fps → ∀ Q : List (V × V) → Hp → Prop, (∀ kvs a' ps F' H', K kvs a' → a'.n = a.n → AOk a' σ F' H' fps → Le F H fps.flatten F' H' fps.flatten → PRep F' ps kvs → Q ps H') → BOk E B a.n σ F H fps → tPairs trs σ H Q
structure DPs (X : Cx) (E : XK) (pos : Pos) (keys : List (Option Expr)) (values : List Expr) (trs : List (TE × TE)) (w : WPs) : Prop where
  pp : PPs X pos keys values trs
  so : SndPs E trs w
def wpNil : WPs := fun a K _ => K [] a
def wpCons (wk wv : WE) (wr : WPs) : WPs := fun a K B => wk a (fun rk a1 => wv a1 (fun rv a2 => ∃ kd d, rk = .d kd ∧ frz rv = some d ∧ wr a2 (fun kvs a3 => K ((kd, d) :: kvs) a3) B) B) B
def LotsOk (kvs : List (D × D)) : Prop := KeysOk kvs ∨ ∃ (k : Ex) (v : D), (∀ x, k ≠ .str x) ∧ kvs = [(k.d, v)]
def dispD (kvs : List (D × D)) : List (D × D) := kvs.foldl (fun acc p => dput acc p.1 p.2) []
theorem KeysOk.sub {kvs ks : List (D × D)} (h : KeysOk kvs) (s : ∀ p ∈ ks, p ∈ kvs) : KeysOk ks := h.imp (fun h p hp => h p (s p hp)) fun h p hp => h p (s p hp)
theorem dput_keys {kvs : List (D × D)} {k v : D} : ∀ p ∈ dput kvs k v, p.1 = k ∨ ∃ q ∈ kvs, q.1 = p.1 := by
  intro p hp
  unfold dput at hp
  split at hp
  · obtain ⟨q, hq, e⟩ := List.mem_map.mp hp
    refine .inr ⟨q, hq, ?_⟩
    subst e
    split <;> rfl
  · rcases List.mem_append.mp hp with h | h
    · exact .inr ⟨p, h, rfl⟩
    · simp at h; subst h; exact .inl rfl
theorem put_all {F : Hp} {p : Addr} : ∀ {ps : List (V × V)} {kvs acc : List (D × D)} {H : Hp} {Q : Hp → Prop}, DcOk F H p acc → Sub F H → F p = none → PRep F ps kvs → KeysOk (acc ++ kvs) → acc.length + kvs.length ≤ 100000 →
    (∀ H', DcOk F H' p (kvs.foldl (fun acc p => dput acc p.1 p.2) acc) → (∃ ob, H' = upd H p ob ∧ ∀ xs, ob ≠ .tup xs) → Q H') → PutAll p ps H Q := by
  intro ps kvs acc H Q dc sub hf r
  induction r generalizing acc H with
  | nil =>
    intro _ _ q
    obtain ⟨o, ho⟩ := dc.there
    refine q H dc ⟨o, ?_, fun xs z => ?_⟩
    · funext b
      by_cases hb : b = p
      · subst hb; rw [upd_same]; exact ho
      · rw [upd_ne hb]
    · subst z
      rcases dc with ⟨ks, e, _⟩ | ⟨ks, e, _⟩ | ⟨φ, ks, vs, e, _⟩ <;> (rw [ho] at e; cases e)
  | @cons a b l₁ l₂ h t ih =>
    intro ko hl q
    have kb : KeyOk acc b.1 := by
      rcases ko with ko | ko
      · exact .inl ⟨ko b (by simp), fun q hq => ko q (by simp [hq])⟩
      · exact .inr ⟨ko b (by simp), fun q hq => ko q (by simp [hq])⟩
    rw [List.length_cons] at hl
    obtain ⟨ob, pu, dc', nt⟩ := put_new dc sub h.1 kb (by omega) h.2
    refine ⟨_, .inl pu, ih dc' (sub.mut hf) ?_ (by have := dput_len acc b.1 b.2; omega) fun H' d' ⟨ob', e', nt'⟩ => q H' d' ⟨ob', by rw [e', upd_upd], nt'⟩⟩
    have keys : ∀ q ∈ dput acc b.1 b.2 ++ l₂, ∃ q' ∈ acc ++ b :: l₂, q'.1 = q.1 := fun q hq => by
      rcases List.mem_append.mp hq with z | z
      · rcases dput_keys q z with e | ⟨q', h1, h2⟩
        · exact ⟨b, by simp, e.symm⟩
        · exact ⟨q', by simp [h1], h2⟩
      · exact ⟨q, by simp [z], rfl⟩
    rcases ko with ko | ko
    · exact .inl fun q hq => by obtain ⟨q', h1, h2⟩ := keys q hq; rw [← h2]; exact ko q' h1
    · exact .inr fun q hq => by obtain ⟨q', h1, h2⟩ := keys q hq; rw [← h2]; exact ko q' h1
def wDisp (w : WPs) : WE := fun a K B => w a (fun kvs a1 => LotsOk kvs ∧ kvs.length ≤ 100000 ∧ K (.nd (dispD kvs)) a1) B
theorem snd_disp {E : XK} {trs : List (TE × TE)} {w : WPs} (h : SndPs E trs w) : SndE E (tDispA trs) (wDisp w) := by
  intro a K B k σ F H fps x Q q b p hp
  have hn : p ∉ fps.flatten := x.fresh hp
  refine h a _ B k σ F (upd H p (.dK [])) fps (x.newH hp) _ (fun kvs a1 ps F1 H1 ⟨lo, hl, k1⟩ n1 x1 l1 pr => ?_) (b.le (Le.newH hp))
  have l01 : Le F H fps.flatten F1 H1 fps.flatten := (Le.newH hp).trans l1
  have e1 : H1 p = some (.dK []) := l1.hp p _ hn upd_same
  have f1 : F1 p = none := l1.noF (H := upd H p (.dK [])) upd_same hn (x.sub.gone hp)
  have fin : ∀ H2, DcOk F1 H2 p (dispD kvs) → (∃ ob, H2 = upd H1 p ob ∧ ∀ xs, ob ≠ .tup xs) → Q (.ref p) H2 := fun H2 dc ⟨ob, e2, nt⟩ => by
    subst e2
    exact q (.nd (dispD kvs)) a1 _ F1 _ k1 n1 (x1.mutD f1 hn nt) (l01.mutD hp) ⟨p, rfl, dc, f1, hn⟩ fun p' e' => by cases e'; exact hp
  rcases lo with lo | ⟨k, v, nk, rfl⟩
  · exact put_all (acc := []) (.inl ⟨[], e1, rfl, .nil⟩) x1.sub f1 pr lo (by simpa using hl) fin
  · cases pr with
    | @cons ab _ l1' _ h t =>
      cases t
      obtain ⟨y, z⟩ := ab
      obtain rfl : y = k.v := Ex.of_rep h.1
      refine ⟨_, .inr ⟨e1, k, rfl, rfl⟩, fin _ (.inr (.inr ⟨_, [k.v], [z], upd_same, rawO_fact, ⟨(k.d, v), by simp [dispD, dput], ?_⟩, .cons (Ex.rep k) .nil, .cons h.2 .nil⟩)) ⟨_, rfl, fun _ z => nomatch z⟩⟩
      cases k with
      | str x => exact absurd rfl (nk x)
      | non => exact ⟨rfl, rfl⟩
      | bl b => exact ⟨rfl, rfl⟩
section
variable {X : Cx} {E : XK} {pos : Pos} {k v : Expr} {ks : List (Option Expr)} {vs : List Expr} {trs : List (TE × TE)} {tk tv : TE} {wk wv : WE} {w : WPs}
theorem dps_nil : DPs X E pos [] [] [] wpNil := ⟨pps_nil, fun a K B k σ F H fps x Q q _ => q [] a [] F H k rfl x (Le.refl _ _ _) .nil⟩
theorem dps_cons (hk : DE X E k tk wk) (hv : DE X E v tv wv) (hr : DPs X E pos ks vs trs w) : DPs X E pos (some k :: ks) (v :: vs) ((tk, tv) :: trs) (wpCons wk wv w) := ⟨pps_cons hk.pe hv.pe hr.pp, by
  intro a K B kk σ F H fps x Q q b
  refine hk.so a _ B kk σ F H fps x _ (fun rk a1 vk F1 H1 k1 n1 x1 l1 o1 w1 => ?_) b
  refine hv.so a1 _ B k1 σ F1 H1 fps x1 _ (fun rv a2 vv F2 H2 ⟨kd, d, ek, ed, k2⟩ n2 x2 l2 o2 w2 => ?_) (by rw [n1]; exact b.le l1)
  subst ek
  obtain ⟨F3, f3, r3⟩ := freeze_one (H0 := H1) x2 o2.w w2 ed
  have l3 := (f3.le l2)
  refine hr.so a2 _ B k2 σ F3 H2 fps f3.ok _ (fun kvs a3 ps F4 H4 k4 n4 x4 l4 pr => ?_) (by rw [n2, n1]; exact b.le (l1.trans l3))
  exact q _ a3 _ F4 H4 k4 (n4.trans (n2.trans n1)) x4 ((l1.trans l3).trans l4) (.cons ⟨Rep.mono (l3.fr.trans l4.fr) o1, r3.mono l4.fr⟩ pr)⟩
theorem de_disp (hu : X.A.units + 200 < cLine) (h : DPs X E pos ks vs trs w) (hall : ks.all (·.isSome) = true) (hl : ks.length = vs.length) (h0 : ks ≠ []) (h15 : ks.length ≤ 15) : DE X E (.Dict ks vs pos) (tDispA trs) (wDisp w) :=
  ⟨pe_dispA hu h.pp hall hl h0 h15, snd_disp h.so⟩
end
def tLkE (i : Nat) (te : TE) : TE := fun σ H Q => ∃ p u, σ[i]? = some (some (.ref p)) ∧ H p = some u ∧ Mut (some u) ∧ ∀ od, Lkd H p od u → te σ (upd H p (.frz od u)) fun v H' => H' p = some (.frz od u) ∧ Q v (upd H' p u)
theorem pe_lkE {X : Cx} {e : Expr} {te : TE} (i : Nat) (h : PE X e te) : PE X e (tLkE i te) := ⟨fun pins s σ H Q I hq => by
  obtain ⟨p, u, _, hp, mu, q⟩ := hq
  obtain ⟨od, I1, lk⟩ := lockK I hp mu
  refine thn (h.run pins s σ _ _ I1 (q od lk)) fun v s1 ⟨x, H2, I2, rx, e2, q2⟩ => ?_
  exact ⟨x, _, I2.unlock e2 (I.nofrz hp mu), rx, q2⟩⟩
def valsBy (kvs : List (D × D)) : List D := kvs.map fun p => (dlook kvs p.1).getD .none
def wVals (i : Nat) : WE := fun a K _ => ∃ k kvs, a.sl[i]? = some (.o k) ∧ a.ow[k]? = some (.dc kvs) ∧ KeysOk kvs ∧ kvs.length ≤ 100000 ∧ K (.nl (valsBy kvs)) a
theorem wipe_set {σ : Sgm} {j : Nat} {x : Option V} : L2.wipe ((L2.wipe σ [j]).set j x) [j] = L2.wipe σ [j] := by
  refine List.ext_getElem? fun m => ?_
  rw [wipe_at, wipe_at]
  by_cases hm : m = j
  · subst hm
    simp only [List.mem_singleton, if_true]
    by_cases hm : m < σ.length
    · rw [List.getElem?_set_self (by rw [L2.wipe_length]; exact hm), List.getElem?_eq_getElem hm]; rfl
    · rw [List.getElem?_eq_none (by rw [List.length_set, L2.wipe_length]; omega), List.getElem?_eq_none (by omega)]
  · rw [if_neg (by simpa using hm), if_neg (by simpa using hm), List.getElem?_set_ne (Ne.symm hm), wipe_at, if_neg (by simpa using hm)]
theorem look_at {κ : Type} [DecidableEq κ] {ks : List (κ × V)} {i : Nat} {k : κ} (h : (ks.map (·.1))[i]? = some k) : ∃ v, valV ks k = some v := by
  have : k ∈ ks.map (·.1) := List.mem_of_getElem? h
  induction ks generalizing i with
  | nil => simp at this
  | cons p ks ih =>
    by_cases e : p.1 = k
    · exact ⟨p.2, valV_pos e⟩
    · rw [valV_neg e]
      rw [List.map_cons] at this
      rcases List.mem_cons.mp this with z | z
      · exact absurd z.symm e
      · obtain ⟨j, hj⟩ := List.mem_iff_getElem?.mp z
        exact ih hj z
section
variable {X : Cx} {E : XK}
theorem vals_turns {K0 : PySem.W.Frag} {i j : Nat} {σ : Sgm} {H1 : Hp} {p : Addr} {o : Obj} {u : HO} {ks vs rs : List V} {Q : VK} (hi : σ[i]? = some (some (.ref p))) (hij : i ≠ j) (hj : j < σ.length) (hp : H1 p = some (.frz o u)) (y : (p == sysModules) = false) (l : LkO o ks vs) (hl : rs.length = ks.length) (hz : ks.length ≤ 100000)
    (get : ∀ (n : Nat) (k r : V), ks[n]? = some k → rs[n]? = some r → ∀ (D : Addr) (ws : List V), H1 D = none → DGetA (upd H1 D (.lst ws)) p k (some r)) (q : ∀ D, H1 D = none → Q (.ref D) (upd H1 D (.lst rs))) :
    tLc (iAny K0 (tVar i)) (gName j) tYes (tOp rIxA (tVar i) (tVar j)) [j] σ H1 Q := by
  refine ⟨.ref p, hi, p, rfl, .inr (.inr ⟨o, u, ks, vs, hp, y, l, fun D hD => ?_⟩)⟩
  have hpD : p ≠ D := fun z => by rw [z, hD] at hp; cases hp
  refine ⟨fun n m H => m = ks.length - n ∧ n ≤ ks.length ∧ H = upd H1 D (.lst (rs.take n)), ⟨ks.length, by simp, Nat.zero_le _, by simp⟩, ?_⟩
  rintro n m H ⟨rfl, hn, rfl⟩
  by_cases hlt : n < ks.length
  · refine .inr ⟨⟨by rw [upd_ne hpD]; exact hp, hlt⟩, fun H' => H' = upd H1 D (.lst (rs.take (n + 1))), fun H' e => ⟨ks.length - (n + 1), by omega, rfl, hlt, e⟩, ?_⟩
    rintro x H' ⟨rfl, hx⟩
    have er : rs[n]? = some rs[n] := List.getElem?_eq_getElem (by omega)
    have wi : (L2.wipe σ [j])[i]? = some (some (.ref p)) := by
      rw [wipe_at, if_neg (by simpa using hij)]; exact hi
    have wl : (L2.wipe σ [j]).length = σ.length := L2.wipe_length _ _
    refine ⟨by rw [wipe_set], ?_⟩
    unfold tYes; dsimp only; rw [if_pos rfl]
    refine ⟨.ref p, ?_, x, ?_, ?_⟩
    · rw [List.getElem?_set_ne (Ne.symm hij)]; exact wi
    · rw [List.getElem?_set_self (by rw [wl]; exact hj)]
    · refine .inr ⟨p, rs[n], rfl, get n x _ hx er D _ hD, _, upd_same, ?_, ?_⟩
      · rw [List.length_take, sizeLine_eq]; omega
      · rw [upd_upd, List.take_add_one, er]; rfl
  · have e : n = ks.length := by omega
    subst e
    refine .inl ⟨⟨by rw [upd_ne hpD]; exact hp, Nat.le_refl _⟩, ?_⟩
    rw [← hl, List.take_length]
    exact q D hD
end
end DL
namespace DL
open PySem PySem.Spec PyProof.Rows L2 LamX
structure Wk where
  px : Px
  m : Nat
  c : Ct
structure WkOk (P : Program) (w : World) (K : PySem.W.Frag) (mg : Str → Option Value) (base : Heap) (k : Nat) (W : Wk) : Prop where
  ref : ∀ H v, W.px.ok H v → ∃ f, v = .ref f
  at_ : (∀ H f, W.px.ok H (.ref f) → PySem.W.keepIn K (.ref f) = true) ∨ (∀ H h f, HOk P w H h → W.px.ok H (.ref f) → PySem.W.FnAt f h)
  run : ∀ (f : Addr) (A : Around) (outer : List Env) (s : Shared) (H : Hp) (us : List Value) (vs : List V) (Q : VK) (E : XK), W.px.ok H (.ref f) → Room k A → Env0 P w K mg base A outer s H → Vals vs us → spOf W.m W.c vs H Q E →
    codeAny (model P w) A (.call (.ref f) ⟨us, []⟩) (CR (L2.CX P w) outer P w H s Q E) s
theorem WkOk.mono {P : Program} {w : World} {K : PySem.W.Frag} {mg : Str → Option Value} {base : Heap} {j k : Nat} {W : Wk} (h : WkOk P w K mg base j W) (l : j ≤ k) : WkOk P w K mg base k W :=
  ⟨h.ref, h.at_, fun f A outer s H us vs Q E ok hr => h.run f A outer s H us vs Q E ok (hr.mono l)⟩
def pxF (mg : Str → Option Value) (tag : Nat) (x : Str) : Px := ⟨tag, fun _ v => ∃ f, mg x = some (.ref f) ∧ v = .ref f, fun _ h => h⟩
def wkF (mg : Str → Option Value) (tag : Nat) (x : Str) (m : Nat) (c : Ct) : Wk := ⟨pxF mg tag x, m, c⟩
theorem wkF_px {mg : Str → Option Value} {tag : Nat} {x : Str} {m : Nat} {c : Ct} : (wkF mg tag x m c).px = pxF mg tag x := rfl
theorem wkF_m {mg : Str → Option Value} {tag : Nat} {x : Str} {m : Nat} {c : Ct} : (wkF mg tag x m c).m = m := rfl
theorem wkF_c {mg : Str → Option Value} {tag : Nat} {x : Str} {m : Nat} {c : Ct} : (wkF mg tag x m c).c = c := rfl
theorem pxF_tag {mg : Str → Option Value} {tag : Nat} {x : Str} : (pxF mg tag x).tag = tag := rfl
theorem wk_f {P : Program} {w : World} {K : PySem.W.Frag} {mg : Str → Option Value} {base : Heap} {k tag : Nat} {x : Str} {ps : List Str} {m : Nat} {c : Ct} (C : Cal P w K mg base false k x ps m c) : WkOk P w K mg base k (wkF mg tag x m c) := by
  obtain ⟨g, fd, F, hm, hk, hb⟩ := C.ex
  have key : ∀ {H : Hp} {f : Addr}, (wkF mg tag x m c).px.ok H (.ref f) → f = g := fun {H f} h => by
    obtain ⟨f', e1, e2⟩ := h
    cases e2
    rw [hm] at e1
    cases e1
    rfl
  refine ⟨fun H v h => let ⟨f, _, e⟩ := h; ⟨f, e⟩, .inl fun H f h => by rw [key h]; exact hk, fun f A outer s H us vs Q E ok hr e0 r h => ?_⟩
  rw [key ok]
  have hl : vs.length = ps.length := F.len _ _ _ _ h
  have KX : K.In s.heap := e0.mod.kin.keeps fun b o e => (e0.bs b o e).1
  have hb2 := hb s us KX (by rw [List.append_nil, ← r.length, hl])
  rw [List.append_nil] at hb2
  exact F.run A outer s H ⟨us, []⟩ us vs Q E hr (fun z => nomatch z) e0 hb2 r h
def ctL (we : WE) : Ct := fun args ow KQ KB => we ⟨args, ow, ow.length⟩ (fun r a => ∃ r', outEv a r = some r' ∧ KQ r' (a.ow.take a.n)) (fun x a => KB x (a.ow.take a.n))
def pxL (tag : Nat) (L : Lm) (q : Str) : Px := ⟨tag, fun F v => ∃ f c', v = .ref f ∧ F f = some (LamO L q [] c' f) ∧ F c' = some (CodeO c' q), fun s ⟨f, c', e, h1, h2⟩ => ⟨f, c', e, s _ _ h1, s _ _ h2⟩⟩
def wkL (tag : Nat) (L : Lm) (q : Str) (m : Nat) (we : WE) : Wk := ⟨pxL tag L q, m, ctL we⟩
theorem wkL_px {tag : Nat} {L : Lm} {q : Str} {m : Nat} {we : WE} : (wkL tag L q m we).px = pxL tag L q := rfl
theorem wkL_m {tag : Nat} {L : Lm} {q : Str} {m : Nat} {we : WE} : (wkL tag L q m we).m = m := rfl
theorem wkL_c {tag : Nat} {L : Lm} {q : Str} {m : Nat} {we : WE} : (wkL tag L q m we).c = ctL we := rfl
theorem pxL_tag {tag : Nat} {L : Lm} {q : Str} : (pxL tag L q).tag = tag := rfl
theorem start_full {ps : List Str} {vs : List V} (h : vs.length = ps.length) : L2.start ps vs = vs.map some := by
  unfold L2.start
  rw [h, Nat.sub_self]
  simp
theorem wk_l {P : Program} {w : World} {K : PySem.W.Frag} {mg : Str → Option Value} {base : Heap} {k tag : Nat} {L : Lm} {q : Str} {ps : List Str} {we : WE} (S : FnScope ps ps L.scope)
    (bn : ∀ (pm cv ctv : Value) (us : List Value), us.length = ps.length → bindArgs (PySem.W.kla_fn "<lambda>" q L.params L.body L.scope [] pm cv ctv) ⟨us, []⟩ = pure (ps.zip us))
    (hb : ∀ (A : Around) (outer : List Env) (s : Shared) (H : Hp) (E : XK) (f c' : Addr), Room k (A.deeper (envOfC q L.scope s.heap.objs.size f (.ref c'))) → ∃ t, DE (cxD P w K mg base ps q L.scope f (.ref c') A outer s H E) E L.body t we) :
    WkOk P w K mg base (k + 1) (wkL tag L q ps.length we) := by
  have fo : ∀ {H : Hp} {h : Heap} {f c' : Addr}, HOk P w H h → H f = some (LamO L q [] c' f) → ∃ pm ctv : Value, h.get? f = some (PySem.W.kla_obj "<lambda>" q L.params L.body L.scope [] pm c' ctv) := fun hok e => by
    obtain ⟨z, _, _⟩ := hok _ _ e
    exact z
  refine ⟨fun H v h => let ⟨f, _, e, _⟩ := h; ⟨f, e⟩, .inr fun H h f hok ok => ?_, fun f A outer s H us vs Q E ok hr e0 r hsp => ?_⟩
  · obtain ⟨f', c', e, h1, h2⟩ := ok
    cases e
    obtain ⟨pm, ctv, z⟩ := fo hok h1
    exact ⟨_, _, _, _, z⟩
  · obtain ⟨f', c', e, h1, h2⟩ := ok
    cases e
    obtain ⟨pm, ctv, z⟩ := fo e0.hok h1
    obtain ⟨⟨oc, fs, t, hoc, hdc, hvc⟩, _, _⟩ := e0.hok c' _ h2
    have hl : vs.length = ps.length := spOf_len _ _ _ _ hsp
    have at_ : ∀ b o, base.get? b = some o → s.heap.get? b = some o := fun b o e => (e0.bs b o e).1
    have kinds : ∀ y ∈ ps.zip us, L.scope.names.lookup y.1 = some .local ∨ (L.scope.names.lookup y.1 = some .cell ∧ ((cellsFrom (s.heap.objs.size + 1) L.scope.names []).lookup y.1).isSome = true) := by
      rintro ⟨n, v⟩ hy
      exact (S.par n (List.of_mem_zip hy).1).imp id fun q => ⟨q, PySem.W.cellsFrom_some _ _ _ (.inl q)⟩
    refine PySem.W.kla_callFunE hr.depth z rfl S.co S.gen rfl ⟨c', oc, fs, t, rfl, hoc, hdc, hvc⟩ ?_
    rw [bn _ _ _ us (by rw [← r.length, hl])]
    refine wpAny_pure (wpAny_newFunctionEnv_cells S.kind kinds fun env he s1 y => ?_)
    subst he
    refine ⟨(e0.mod.nolimit.keeps at_).keeps y.toInCall.keep, ?_⟩
    have J : Inv (cxD P w K mg base ps q L.scope f (.ref c') A outer s H E) [] (start ps vs) H s1 := inv_start S hr.hd e0 hl r y
    obtain ⟨te, D⟩ := hb A outer s H E f c' (hr.deeper _)
    obtain ⟨args, ow, F, fps, KQ, KB, g1, g2, g3, g4, g5⟩ := hsp
    have t0 : fps.take ow.length = fps := by have : fps.length = ow.length := g2.len; rw [← this, List.take_length]
    have g1 : args.length = ps.length := g1
    have x0 : AOk ⟨args, ow, ow.length⟩ (start ps vs) F H fps := by
      have h := start_ok (N := ps) g2 (by omega)
      unfold a0 at h
      rw [show ps.length - args.length = 0 by omega] at h
      simpa using h
    refine PySem.W.kla_codeExpr (wpAny_mono (D.pe.run [] s1 (start ps vs) H Q J (D.so _ _ _ g3 _ F H fps x0 Q (fun r' a' v' F' H' k1 n1 x' l' o' w' => ?_) fun x a' d F' H' k1 n1 x' l' o' => ?_)) (fun v s' hs => ?_) fun e s' hs => hs)
    · obtain ⟨r2, e2, k2⟩ := k1
      have tn : fps.take a'.n = fps := by rw [n1]; exact t0
      obtain ⟨p1, p2⟩ := out_ok x' l' tn o' w' e2
      exact g4 r2 _ v' F' H' k2 (take_ok x' tn) l' p1 p2
    · have tn : fps.take a'.n = fps := by rw [n1]; exact t0
      exact g5 x _ d F' H' k1 (take_ok x' tn) l' (xd_take tn o')
    · obtain ⟨v', H', J', rv, qq⟩ := hs
      exact ⟨v', H', J'.os, J'.bare, J'.base, J'.hok, rv, qq⟩
def tCallW (i : Nat) (Ws : List Wk) (E : XK) (ta : TA) : TE := fun σ H Q => ∃ v W, W ∈ Ws ∧ σ[i]? = some (some v) ∧ W.px.ok H v ∧ ta σ H fun vs H1 => W.px.ok H1 v ∧ spOf W.m W.c vs H1 Q E
def wCallW (i : Nat) (Ws : List Wk) (wa : WA) : WE := fun a K B => match a.sl[i]? with
  | some (.px p) => (match Ws[p.tag]? with
    | some W => W.px = p ∧ wCall W.c W.m wa a K B
    | none => False)
  | _ => False
section
variable {X : Cx} {E : XK} {i k : Nat} {Ws : List Wk} {x : Str} {e : Expr} {es : List Expr} {p pos : Pos} {ta : TA} {wa : WA}
theorem pe_callW (hW : ∀ W ∈ Ws, WkOk X.prog X.w X.K X.mg X.base k W) (hr : Room k X.A) (hx : PassG X E) (hN : X.N[i]? = some x) (hv : Vis X.env.scope x) (hd : (x == ("__debug__" : Str)) = false) (hcd : (x == ("__classdict__" : Str)) = false)
    (ha : PA X (e :: es) ta) (he : starEach (e :: es) X.env = (false, eval e X.env) :: starEach es X.env) (hpl : (backTo pos (starEach es X.env)).any (·.1) = false) : PE X (.Call (.Name x p) (e :: es) [] pos) (tCallW i Ws E ta) := by
  refine ⟨fun pins s σ H Q I h => ?_⟩
  obtain ⟨v, W, hm, hs, hok, ht⟩ := h
  refine wpAny_Call_Name_kw (thn ((pe_var (pos := p) hN hv hd hcd).run pins s σ H (fun v' H1 => v' = v ∧ H1 = H) I ⟨v, hs, rfl, rfl⟩) fun u s1 got => ?_)
  obtain ⟨v', H1, I1, r1, e1, e2⟩ := got
  subst e1 e2
  have WO := hW W hm
  obtain ⟨f, rfl⟩ := WO.ref _ _ hok
  obtain rfl : u = Value.ref f := r1
  have go : ∀ {s2 : Shared} {H2 : Hp} {us : List Value} {vs : List V}, Inv X pins σ H2 s2 → Vals vs us → W.px.ok H2 (.ref f) → spOf W.m W.c vs H2 Q E → wpAny (model X.prog X.w) X.A (call (.ref f) us) (EP X pins σ Q) X.xe s2 := fun {s2 H2 us vs} I2 r ok q => by
    refine wpAny_call (codeAny_mono (WO.run f X.A X.stack s2 H2 us vs Q E ok hr I2.env0 r q) fun rr s' hq => ?_)
    cases rr with
    | error e => exact hx pins σ H2 s2 e s' I2 hq
    | ok fl =>
      cases fl with
      | ret u => exact I2.after hq
      | next => exact hq.elim
      | brk => exact hq.elim
      | cont => exact hq.elim
  rcases WO.at_ with kk | kk
  · refine PySem.W.callWith_K (h₀ := X.base) I1.ok.mod.kin (kk _ f hok) (thn (ha.run pos pins s1 σ _ _ I1 ht) fun us s2 ⟨vs, H2, I2, r, ok2, q⟩ => ⟨I2.kIn, ?_⟩) he hpl
    exact go I2 r ok2 q
  · refine PySem.W.callWith_F (kk _ _ f I1.hok hok) (thn (ha.run pos pins s1 σ _ _ I1 ht) fun us s2 ⟨vs, H2, I2, r, ok2, q⟩ => ⟨kk _ _ f I2.hok ok2, ?_⟩) he hpl
    exact go I2 r ok2 q
theorem de_callW {j : Nat} (hW : ∀ W ∈ Ws, WkOk X.prog X.w X.K X.mg X.base k W) (hr : Room j X.A) (hj : k ≤ j) (hx : PassG X E) (ha : DA X E (e :: es) ta wa) (hN : X.N[i]? = some x := by rfl) (hv : Vis X.env.scope x := by first | exact Or.inl rfl | exact Or.inr (Or.inl rfl) | exact Or.inr (Or.inr rfl))
    (hd : (x == ("__debug__" : Str)) = false := by decide) (hcd : (x == ("__classdict__" : Str)) = false := by decide) (he : starEach (e :: es) X.env = (false, eval e X.env) :: starEach es X.env := by rfl) (hpl : (backTo pos (starEach es X.env)).any (·.1) = false := by rfl) :
    DE X E (.Call (.Name x p) (e :: es) [] pos) (tCallW i Ws E ta) (wCallW i Ws wa) := ⟨pe_callW hW (hr.mono hj) hx hN hv hd hcd ha.pa he hpl, by
  intro a K B kk σ F H fps xx Q q b
  unfold wCallW at kk
  split at kk
  · rename_i p' e1
    split at kk
    · rename_i W e2
      obtain ⟨rfl, kk⟩ := kk
      obtain ⟨v, ev, okF⟩ := xx.sl i _ e1
      have ev2 : σ[i]? = some (some v) := by
        cases e3 : σ[i]? with
        | none => rw [e3] at ev; cases ev
        | some o => rw [e3] at ev; exact congrArg some ev
      refine ⟨v, W, List.mem_of_getElem? e2, ev2, W.px.mono xx.sub okF, ?_⟩
      refine ha.so a _ B kk σ F H fps xx _ (fun rs a1 vs F1 H1 ⟨ss, e1, hl, k1⟩ n1 x1 l1 o1 w1 => ?_) b
      obtain ⟨F2, f, h⟩ := keep_all (H0 := H) x1 (Paired.mapP o1 fun _ _ z => valK z) w1 e1
      exact ⟨W.px.mono (l1.fr.trans x1.sub) okF, call_end n1 (f.le l1) f.ok q b h hl k1⟩
    · exact kk.elim
  · exact kk.elim⟩
end
structure DV (X : Cx) (ki : Nat) (P : Addr) (k : Nat) (e : Expr) (te : TE) (W : Wk) : Prop where
  pe : PE X e te
  so : ∀ {a : AS} {σ : Sgm} {F H : Hp} {fps : List (List Addr)}, AOk a σ F H fps → a.ow[ki]? = some (.tb P (lqX X)) → ∀ {Q : VK}, (∀ v F' H', AOk a σ F' H' fps → Le F H fps.flatten F' H' fps.flatten → W.px.ok F' v → Q v H') → te σ H Q
  ok : WkOk X.prog X.w X.K X.mg X.base k W
def tGl (X : Cx) (x : Str) : TE := fun _ H Q => ∃ f, X.mg x = some (.ref f) ∧ Q (.ref f) H
theorem dv_f {X : Cx} {ki : Nat} {P : Addr} {x : Str} {tag m : Nat} {c : Ct} {j k : Nat} {ps : List Str} {pos : Pos} (C : Cal X.prog X.w X.K X.mg X.base false j x ps m c) (hj : j ≤ k) (hg : Gl X x) {mg0 : Str → Option Value} (hd : (x == ("__debug__" : Str)) = false := by decide) (hm0 : X.mg = mg0 := by rfl) :
    DV X ki P k (.Name x pos) (tGl X x) (wkF mg0 tag x m c) := by
  subst hm0
  have ok := (wk_f (tag := tag) C).mono hj
  obtain ⟨g, fd, F, hm, hk, hb⟩ := C.ex
  refine ⟨⟨fun pins s σ H Q I ⟨f, e, q⟩ => ?_⟩, fun {a σ F H fps} x1 _ {Q} q => ⟨g, hm, q _ F H x1 (Le.refl _ _ _) ⟨g, hm, rfl⟩⟩, ok⟩
  exact (pe_glob (v := .ref f) hg e rfl hd).run pins s σ H Q I q
theorem cloFrom_nil {cells : List (Str × Addr)} : ∀ {names : List (Str × NameKind)} {acc : List (Str × Addr)}, (∀ y ∈ names, y.2 ≠ .free) → cloFrom cells names acc = acc
  | [], acc, _ => rfl
  | (n, k) :: r, acc, h => by
    unfold cloFrom
    have : (k == NameKind.free) = false := by
      have := h (n, k) (by simp)
      cases k <;> first | rfl | exact absurd rfl this
    rw [this]
    exact cloFrom_nil fun y hy => h y (List.mem_cons_of_mem _ hy)
theorem dv_l {X : Cx} {ki : Nat} {P : Addr} {params : Arguments} {body : Expr} {scope : Scope} {q : Str} {tag : Nat} {ps : List Str} {j : Nat} {k : Nat} {we : WE} {pos : Pos} (LA : LamAt X P) (df : defaultsOf params X.env = ([], [])) (S : FnScope ps ps scope)
    (bn : ∀ (pm cv ctv : Value) (us : List Value), us.length = ps.length → bindArgs (PySem.W.kla_fn "<lambda>" q params body scope [] pm cv ctv) ⟨us, []⟩ = pure (ps.zip us)) (hj : j + 1 ≤ k)
    (hb : ∀ (A : Around) (outer : List Env) (s : Shared) (H : Hp) (E : XK) (f c' : Addr), Room j (A.deeper (envOfC q scope s.heap.objs.size f (.ref c'))) → ∃ t, DE (cxD X.prog X.w X.K X.mg X.base ps q scope f (.ref c') A outer s H E) E body t we) (hq : lqX X = q := by rfl) :
    DV X ki P k (.Lambda params body scope pos) (tLm X P ⟨params, body, scope⟩) (wkL tag ⟨params, body, scope⟩ q ps.length we) := by
  have ok := (wk_l (tag := tag) (L := ⟨params, body, scope⟩) S bn hb).mono hj
  subst hq
  have nf := S.nofree
  refine ⟨pe_lm0 (L := ⟨params, body, scope⟩) LA df fun _ y hy e => absurd e (nf y hy), fun {a σ F H fps} x hk {Q} qq => ?_, ok⟩
  refine snd_lm (tb := fun _ _ _ _ => True) x hk fun v F' H' x' l' ⟨f, c', e, h1, h2⟩ => qq v F' H' x' l' ⟨f, c', e, ?_, h2⟩
  rw [h1]
  show some (LamO ⟨params, body, scope⟩ (lqX X) (cloX X ⟨params, body, scope⟩) c' f) = _
  rw [show cloX X ⟨params, body, scope⟩ = [] from cloFrom_nil nf]
inductive DVs (X : Cx) (ki : Nat) (P : Addr) (k : Nat) : List Expr → TA → List Wk → Prop
  | nil : DVs X ki P k [] tNil []
  | cons {e : Expr} {es : List Expr} {te : TE} {ta : TA} {p : Wk} {ps : List Wk} (h : DV X ki P k e te p) (r : DVs X ki P k es ta ps) (hs : starEach (e :: es) X.env = (false, eval e X.env) :: starEach es X.env) : DVs X ki P k (e :: es) (tCons te ta) (p :: ps)
theorem DVs.pa {X : Cx} {ki k : Nat} {P : Addr} {es : List Expr} {ta : TA} {ps : List Wk} (D : DVs X ki P k es ta ps) : PA X es ta := by
  induction D with
  | nil => exact pa_nil
  | cons h r hs ih => exact pa_cons h.pe ih hs
theorem DVs.ok {X : Cx} {ki k : Nat} {P : Addr} {es : List Expr} {ta : TA} {ps : List Wk} (D : DVs X ki P k es ta ps) : ∀ W ∈ ps, WkOk X.prog X.w X.K X.mg X.base k W := by
  induction D with
  | nil => intro W h; cases h
  | cons h r hs ih => intro W hm; exact (List.mem_cons.mp hm).elim (fun z => z ▸ h.ok) (ih W)
theorem DVs.so {X : Cx} {ki k : Nat} {P : Addr} {es : List Expr} {ta : TA} {ps : List Wk} (D : DVs X ki P k es ta ps) : ∀ {a : AS} {σ : Sgm} {F H : Hp} {fps : List (List Addr)}, AOk a σ F H fps → a.ow[ki]? = some (.tb P (lqX X)) → ∀ {Q : List V → Hp → Prop},
    (∀ vs F' H', AOk a σ F' H' fps → Le F H fps.flatten F' H' fps.flatten → Paired (fun v (p : Wk) => p.px.ok F' v) vs ps → Q vs H') → ta σ H Q := by
  induction D with
  | nil => intro a σ F H fps x hk Q q; exact q [] F H x (Le.refl _ _ _) .nil
  | @cons e es te ta p ps h r hs ih =>
    intro a σ F H fps x hk Q q
    show te σ H fun v H1 => ta σ H1 fun vs H2 => Q (v :: vs) H2
    refine h.so x hk fun v F1 H1 x1 l1 i1 => ?_
    refine ih x1 hk fun vs F2 H2 x2 l2 i2 => ?_
    exact q _ F2 H2 x2 (l1.trans l2) (.cons (p.px.mono l2.fr i1) i2)
def wForWs (i : Nat) (w1 : WS) : List Wk → WS
  | [] => fun a A => A.nx a
  | p :: ps => fun a A => side (i < a.sl.length) (w1 { a with sl := a.sl.set i (.px p.px) } { A with nx := fun a' => wForWs i w1 ps a' A, ct := fun a' => wForWs i w1 ps a' A, bk := A.nx })
def wForW (i k : Nat) (P : Addr) (q : Str) (w1 : WS) (ps : List Wk) : WS := fun a A => side (a.ow[k]? = some (.tb P q) ∧ ps.length ≤ 1000) (wForWs i w1 ps a A)
theorem u_forWn {i : Nat} {w1 : WS} {a : AS} {A : AE} : wForWs i w1 [] a A = A.nx a := rfl
theorem u_forWc {i : Nat} {w1 : WS} {p : Wk} {ps : List Wk} {a : AS} {A : AE} : wForWs i w1 (p :: ps) a A = side (i < a.sl.length) (w1 { a with sl := a.sl.set i (.px p.px) } { A with nx := fun a' => wForWs i w1 ps a' A, ct := fun a' => wForWs i w1 ps a' A, bk := A.nx }) := rfl
theorem e_forW {i : Nat} {P : Addr} {q : Str} {w1 : WS} {ps : List Wk} {sl : List Sl} {ow : List Own} {n : Nat} {A : AE} : wForW i 0 P q w1 ps ⟨sl, .tb P q :: ow, n⟩ A = side (ps.length ≤ 1000) (wForWs i w1 ps ⟨sl, .tb P q :: ow, n⟩ A) :=
  propext ⟨fun h => ⟨h.1.2, h.2⟩, fun h => ⟨⟨rfl, h.1⟩, h.2⟩⟩
theorem paired_at {α β : Type} {R : α → β → Prop} {xs : List α} {ys : List β} (h : Paired R xs ys) : ∀ {j : Nat} {y : β}, ys[j]? = some y → ∃ x, xs[j]? = some x ∧ R x y := by
  induction h with
  | nil => intro j y h; simp at h
  | cons h1 _ ih =>
    intro j y e
    cases j with
    | zero => cases e; exact ⟨_, rfl, h1⟩
    | succ j => exact ih (by simpa using e)
theorem snd_forW {X : Cx} {E : XK} {i ki : Nat} {P : Addr} {es : List Expr} {ta : TA} {ps : List Wk} {t1 : TS} {w1 : WS} {k : Nat} (D : DVs X ki P k es ta ps) (h1 : SndS E t1 w1) : SndS E (tFor (iSeq X.K (tLst ta)) (gName i) t1) (wForW i ki P (lqX X) w1 ps) := by
  intro a A ⟨⟨hk, hl⟩, hw⟩ σ F H fps x Z en
  refine D.so x hk fun vs F1 H1 x1 l1 la => ?_
  have hvl : vs.length = ps.length := Paired.len la
  refine ⟨by rw [sizeLine_eq]; omega, fun p np => ⟨p, rfl, .inl ⟨⟨vs, upd_same⟩, ?_⟩⟩⟩
  have x2 : AOk a σ (upd F1 p (.lst vs)) (upd H1 p (.lst vs)) fps := x1.newF np
  have l2 := l1.trans (Le.newF (P := fps.flatten) (o := .lst vs) x1.sub np)
  have la2 : Paired (fun v (y : Wk) => y.px.ok (upd F1 p (.lst vs)) v) vs ps := Paired.mapP la fun _ y z => y.px.mono (Sub.put (x1.sub.gone np)) z
  have hp : upd F1 p (.lst vs) p = some (.lst vs) := upd_same
  generalize upd F1 p (.lst vs) = F2 at x2 l2 la2 hp
  generalize upd H1 p (.lst vs) = H2 at x2 l2
  refine ⟨fun j m σ' H' => m = ps.length - j ∧ j ≤ ps.length ∧ ∃ a' F' fps', wForWs i w1 (ps.drop j) a' A ∧ a'.n = a.n ∧ AOk a' σ' F' H' fps' ∧ Le F2 H2 fps.flatten F' H' fps'.flatten ∧ fps'.take a.n = fps.take a.n,
    ⟨ps.length, by simp, Nat.zero_le _, a, F2, fps, by simpa using hw, rfl, x2, Le.refl _ _ _, rfl⟩, ?_⟩
  rintro j m σ' H' ⟨rfl, hj, a', F', fps', hw', hn, x', l', t'⟩
  have hpH : H' p = some (.lst vs) := x'.sub _ _ (l'.fr _ _ hp)
  by_cases hlt : j < ps.length
  · have hjv : j < vs.length := by omega
    refine .inr ⟨⟨vs, vs[j], SqL.of hpH, by simp⟩, fun σ' H' => ∃ a' F' fps', wForWs i w1 (ps.drop (j + 1)) a' A ∧ a'.n = a.n ∧ AOk a' σ' F' H' fps' ∧ Le F2 H2 fps.flatten F' H' fps'.flatten ∧ fps'.take a.n = fps.take a.n,
      fun σ' H' h => ⟨ps.length - (j + 1), by omega, rfl, hlt, h⟩, fun v H'' y => ?_⟩
    obtain ⟨e, y⟩ := y
    subst e
    have hv := y vs (SqL.of hpH)
    have hpj : ps[j]? = some ps[j] := by simp [hlt]
    obtain ⟨v', hv', ok⟩ := paired_at la2 hpj
    rw [hv] at hv'
    cases hv'
    rw [List.drop_eq_getElem_cons hlt] at hw'
    obtain ⟨hi, hw'⟩ := hw'
    have x3 : AOk { a' with sl := a'.sl.set i (.px ps[j].px) } (σ'.set i (some v)) F' H'' fps' := x'.setSlot ⟨v, rfl, ps[j].px.mono l'.fr ok⟩
    have en4 := en.le (l2.trans l') t'
    have nx : ∀ b σ'' F'' G'' fps'', wForWs i w1 (ps.drop (j + 1)) b A → AOk b σ'' F'' G'' fps'' → Le F' H'' fps'.flatten F'' G'' fps''.flatten → fps''.take a.n = fps'.take a.n → b.n = a.n →
        ∃ a' F' fps', wForWs i w1 (ps.drop (j + 1)) a' A ∧ a'.n = a.n ∧ AOk a' σ'' F' G'' fps' ∧ Le F2 H2 fps.flatten F' G'' fps'.flatten ∧ fps'.take a.n = fps.take a.n :=
      fun b σ'' F'' G'' fps'' q1 q2 q3 q4 q5 => ⟨b, F'', fps'', q1, q5, q2, l'.trans q3, q4.trans t'⟩
    refine h1 _ _ hw' _ F' H'' fps' x3 _ ?_
    show EndsOk E a'.n _ _ _ _ _
    rw [hn]
    exact ⟨nx, en4.rt, en4.nx, nx, en4.xb⟩
  · have e : j = ps.length := by omega
    subst e
    rw [List.drop_length] at hw'
    exact .inl ⟨⟨vs, SqL.of hpH, by omega⟩, en.nx a' σ' F' H' fps' hw' x' (l2.trans l') t' hn⟩
theorem ds_forW {X : Cx} {E : XK} {P : Addr} {i : Nat} {es : List Expr} {ta : TA} {ps : List Wk} {t1 : TS} {w1 : WS} {suite : List Stmt} {work : Str} {pw lp pos : Pos} {q0 : Str} {ki k : Nat} (D : DVs X ki P k es ta ps) (hp : PassesOwn (model X.prog X.w) X.A X.env X.xe) (hc : X.calm = true) (hND : X.N.Nodup) (hN : X.N[i]? = some work) (hl : Loc X.env.scope work)
    (h1 : (∀ W ∈ ps, WkOk X.prog X.w X.K X.mg X.base k W) → DSs X E suite t1 w1) (hf : X.fn work = true ∨ X.env.scope.names.lookup work = some .local := by first | exact .inl rfl | exact .inr rfl | assumption)
    (hs : ∀ x, foldedSetIterable (.List es lp) X.env x = pure x := by intro _; rfl) (hq : lqX X = q0 := by rfl) : DS X E (.For (.Name work pw) (.List es lp) suite [] pos) (tFor (iSeq X.K (tLst ta)) (gName i) t1) (wForW i ki P q0 w1 ps) := by
  subst hq
  exact ⟨ps_for hp hc (pi_seq (pe_lst D.pa)) (pg_name hND hN hl hf) (h1 D.ok).ps hs, snd_forW D (h1 D.ok).so⟩
end DL
namespace DL
open PySem PySem.Spec PyProof.Rows L2
section
variable {X : Cx} {E : XK} {pos p : Pos} {ea eb ec : Expr} {ta tb tc : TE} {wa wb wc : WE}
def wLstRg2 (wa wb : WE) : WE := fun a K B => wa a (fun r a1 => wb a1 (fun u a2 => ∃ i j, vw a2 r = some (.int i) ∧ vw a2 u = some (.int j) ∧ 0 ≤ i ∧ i ≤ 100000 ∧ 0 ≤ j ∧ j ≤ 100000 ∧ K (.nl (rangeD i (j - i).toNat)) a2) B) B
theorem de_listRg2 {p1 p2 pos1 : Pos} (hc : X.calm = true) (hg : Gl X "list") (hm : X.mg "list" = none) (hg2 : Gl X "range") (hm2 : X.mg "range" = none) (ha : DE X E ea ta wa) (hb : DE X E eb tb wb)
    (na : starEach [ea, eb] X.env = (false, eval ea X.env) :: starEach [eb] X.env := by rfl) (nb : starEach [eb] X.env = (false, eval eb X.env) :: starEach [] X.env := by rfl) (hpp : (backTo p2 (starEach [eb] X.env)).any (·.1) = false := by rfl)
    (na2 : starEach [Expr.Call (.Name "range" p1) [ea, eb] [] p2] X.env = (false, eval (Expr.Call (.Name "range" p1) [ea, eb] [] p2) X.env) :: starEach [] X.env := by rfl) :
    DE X E (.Call (.Name "list" p) [.Call (.Name "range" p1) [ea, eb] [] p2] [] pos) (tLstRg (tRg2 ta tb)) (wLstRg2 wa wb) := ⟨pe_listRg hc hg hm (prg_2 hg2 hm2 ha.pe hb.pe na nb hpp) na2, by
  intro a K B k σ F H fps x Q q b
  refine ha.so a _ B k σ F H fps x _ (fun r1 a1 v1 F1 H1 k1 n1 x1 l1 o1 w1 => ?_) b
  refine hb.so a1 _ B k1 σ F1 H1 fps x1 _ (fun r2 a2 v2 F2 H2 ⟨i, j, e1, e2, h0, h1, h2, h3, k2⟩ n2 x2 l2 o2 w2 => ?_) (by rw [n1]; exact b.le l1)
  refine ⟨i, j, ?_, vw_int x2 o2 e2, .of_le (by omega) (by omega) (by omega) (by omega), fun l hl => ?_⟩
  · exact vw_int x2 (o1.le l2) e1
  exact q _ a2 _ _ _ k2 (n2.trans n1) (x2.newH hl) ((l1.trans l2).trans (Le.newH hl)) ⟨l, _, rfl, upd_same, x2.sub.gone hl, x2.fresh hl, rg_rep (F := F2) i j⟩ fun p' e' => by cases e'; exact (l1.trans l2).ex _ hl⟩
def tIsB (f : Bool → Bool) (ta : TE) : TE := fun σ H Q => ta σ H fun x H1 => ∃ b, x = .bl b ∧ Q (.bl (f b)) H1
theorem pc_isB {a : Expr} {c : Bool} {j} {pos' : Pos} (ha : PE X a ta) : PC X .Is a (.Constant (.bool c) j pos') (tIsB (fun b => b == c) ta) := by
  refine ⟨fun pins s σ H Q I h => ?_⟩
  refine thn (ha.run pins s σ H _ I h) fun v s1 ⟨x, H1, I1, r1, b, hx, q1⟩ => ?_
  subst hx
  obtain rfl : v = .bool b := r1
  refine thn ((pe_bl (X := X) (b := c) (pos := pos')).run pins s1 σ H1 (fun y H2 => y = .bl c ∧ H2 = H1) I1 ⟨rfl, rfl⟩) fun u s2 ⟨y, H2, I2, r2, e1, e2⟩ => ?_
  subst e1 e2
  obtain rfl : u = .bool c := r2
  exact is_bool ⟨.bl _, _, I2, rfl, q1⟩
theorem pc_notB {a : Expr} {c : Bool} {j} {pos' : Pos} (ha : PE X a ta) : PC X .IsNot a (.Constant (.bool c) j pos') (tIsB (fun b => b != c) ta) := by
  refine ⟨fun pins s σ H Q I h => ?_⟩
  refine thn (ha.run pins s σ H _ I h) fun v s1 ⟨x, H1, I1, r1, b, hx, q1⟩ => ?_
  subst hx
  obtain rfl : v = .bool b := r1
  refine thn ((pe_bl (X := X) (b := c) (pos := pos')).run pins s1 σ H1 (fun y H2 => y = .bl c ∧ H2 = H1) I1 ⟨rfl, rfl⟩) fun u s2 ⟨y, H2, I2, r2, e1, e2⟩ => ?_
  subst e1 e2
  obtain rfl : u = .bool c := r2
  exact isnot_bool ⟨.bl _, _, I2, rfl, q1⟩
def boolE : Ev → Option Bool
  | .d (.bool b) => some b
  | _ => none
theorem boolE_some {r : Ev} {b : Bool} (h : boolE r = some b) : r = .d (.bool b) := by
  unfold boolE at h
  split at h
  · cases h; rfl
  · cases h
def wIsB (f : Bool → Bool) (we : WE) : WE := fun a K B => we a (fun r a1 => so (boolE r) fun b => K (.d (.bool (f b))) a1) B
theorem snd_isB {f : Bool → Bool} {te : TE} {we : WE} (h : SndE E te we) : SndE E (tIsB f te) (wIsB f we) := by
  intro a K B k σ F H fps x Q q b
  refine h a _ B k σ F H fps x _ (fun r a1 v F1 H1 k1 n1 x1 l1 o1 w1 => ?_) b
  obtain ⟨c, e, k1⟩ := so_e k1
  have e := boolE_some e
  subst e
  have o1 : Rep F1 v (.bool c) := o1
  cases o1
  exact ⟨c, rfl, q _ a1 _ F1 H1 k1 n1 x1 l1 (.bl _) trivial⟩
theorem de_isB {c : Bool} {j : Nat} (h : DE X E ea ta wa) : DE X E (.Compare ea [.Is] [.Constant (.bool c) j p] pos) (tIsB (fun b => b == c) ta) (wIsB (fun b => b == c) wa) := ⟨pe_cmp (pc_isB h.pe), snd_isB h.so⟩
theorem de_notB {c : Bool} {j : Nat} (h : DE X E ea ta wa) : DE X E (.Compare ea [.IsNot] [.Constant (.bool c) j p] pos) (tIsB (fun b => b != c) ta) (wIsB (fun b => b != c) wa) := ⟨pe_cmp (pc_notB h.pe), snd_isB h.so⟩
theorem dt_isB {c : Bool} {j : Nat} (h : DE X E ea ta wa) : DT X E (.Compare ea [.Is] [.Constant (.bool c) j p] pos) (tB (tIsB (fun b => b == c) ta)) (wTst (wIsB (fun b => b == c) wa)) := ⟨pt_cmp (pc_isB h.pe), snd_tst (snd_isB h.so)⟩
theorem dt_notB {c : Bool} {j : Nat} (h : DE X E ea ta wa) : DT X E (.Compare ea [.IsNot] [.Constant (.bool c) j p] pos) (tB (tIsB (fun b => b != c) ta)) (wTst (wIsB (fun b => b != c) wa)) := ⟨pt_cmp (pc_notB h.pe), snd_tst (snd_isB h.so)⟩
def wSetL (wo wi wv : WE) : WS := fun a D => wv a (fun r a1 => wo a1 (fun x a2 => wi a2 (fun y a3 => ∃ k xs d n j, x = .o k ∧ a3.ow[k]? = some (.ls xs) ∧ frz r = some d ∧ vw a3 y = some (.int n) ∧ ixN xs.length n = some j ∧
  D.nx { a3 with ow := a3.ow.set k (.ls (xs.set j d)) }) D.xb) D.xb) D.xb
theorem ds_setL {o i value : Expr} {to ti tv : TE} {wo wi wv : WE} {pos' : Pos} (ho : DE X E o to wo) (hi : DE X E i ti wi) (hv : DE X E value tv wv) (hs : swapsWithSole [.Subscript o i pos'] value pos.line X.env = pure false := by rfl)
    (hw : swappedStores [.Subscript o i pos'] value X.env = pure none := by rfl) (h1 : (assignEach [.Subscript o i pos'] X.env).map (·.2) = [assign (.Subscript o i pos') X.env] := by rfl)
    (hsub : ∀ v, assign (.Subscript o i pos') X.env v = (do
      let ov ← holding [v] (eval o X.env)
      let iv ← holding [v, ov] (eval i X.env)
      standAt pos'
      holding [v, ov, iv] (setItem ov iv v)
      release [v, ov, iv] []) := by intro _; rfl) :
    DS X E (.Assign [.Subscript o i pos'] value pos) (tAsg tv (gSub to ti rSetL)) (wSetL wo wi wv) := ⟨ps_asg hv.pe (pg_sub ho.pe hi.pe set_list hsub) hs hw h1, by
  intro a A k σ F H fps x D en
  refine hv.so a _ _ k σ F H fps x _ (fun r1 a1 v1 F1 H1 k1 n1 x1 l1 o1 w1 => ?_) (ends_b en)
  refine ho.so a1 _ _ k1 σ F1 H1 fps x1 _ (fun r2 a2 v2 F2 H2 k2 n2 x2 l2 o2 w2 => ?_) (by rw [n1]; exact (ends_b en).le l1)
  refine hi.so a2 _ _ k2 σ F2 H2 fps x2 _ (fun r3 a3 v3 F3 H3 ⟨j, xs, d, n, m, ex, ec, er, ey, hm, k3⟩ n3 x3 l3 o3 w3 => ?_) (by rw [n2, n1]; exact (ends_b en).le (l1.trans l2))
  subst ex
  have o1' := (o1.le (l2.trans l3))
  have e3 := vw_int x3 o3 ey
  obtain ⟨F4, f4, r4⟩ := freeze_one (H0 := H) x3 o1'.w w1 er
  obtain ⟨p, ps, rfl, hp⟩ := o2
  obtain ⟨rfl, vs, hvs, rr⟩ := cell_one f4.ok hp ec
  refine ⟨p, vs, n, m, rfl, e3, hvs, by rw [rr.length]; exact hm, ?_⟩
  obtain ⟨x5, l5⟩ := f4.ok.setCell (o := .lst (vs.set m v1)) (c := .ls (xs.set m d)) hp ec ⟨p, _, rfl, upd_same, rr.set r4 m⟩
  exact en.nx _ σ F4 _ fps k3 x5 ((f4.le ((l1.trans l2).trans l3)).trans l5) rfl (n3.trans (n2.trans n1))⟩
end
end DL
namespace DL
open PySem PySem.Spec PyProof.Rows L2
def truD : D → Option Bool
  | .none => some false
  | .bool b => some b
  | .int i => some (i != 0)
  | .list xs => some (!xs.isEmpty)
  | .tuple xs => some (!xs.isEmpty)
  | _ => none
theorem truD_n : truD .none = some false := rfl
theorem truD_b {b : Bool} : truD (.bool b) = some b := rfl
theorem truD_i {i : Int} : truD (.int i) = some (i != 0) := rfl
theorem truD_l {xs : List D} : truD (.list xs) = some (!xs.isEmpty) := rfl
theorem truD_t {xs : List D} : truD (.tuple xs) = some (!xs.isEmpty) := rfl
theorem truD_v {K : PySem.W.Frag} {H : Hp} {v : V} {d : D} {b : Bool} (r : Rep H v d) (h : truD d = some b) : TruV K v H b := by
  cases r with
  | non => cases h; rfl
  | bl _ => cases h; rfl
  | int _ => cases h; rfl
  | str _ => cases h
  | @tup p vs ds e rr =>
    cases h
    refine .inr (.inl ⟨vs, SqT.of e, ?_⟩)
    cases rr <;> rfl
  | @lst p vs ds e rr =>
    cases h
    refine .inl ⟨vs, SqL.of e, ?_⟩
    cases rr <;> rfl
  | dct _ _ _ _ _ => cases h
  | dctT _ _ _ _ _ _ => cases h
  | dctR _ _ _ _ _ _ => cases h
def tTru (K : PySem.W.Frag) (te : TE) : TT := fun σ H Q => te σ H fun x H' => ∃ k, TruV K x H' k ∧ Q k H'
def wTru (w : WE) : WT := fun a K B => w a (fun r a1 => so (vw a1 r) fun d => so (truD d) fun b => K b a1) B
theorem u_tru {w : WE} {a : AS} {K : Bool → AS → Prop} {B : XD → AS → Prop} : wTru w a K B = w a (fun r a1 => so (vw a1 r) fun d => so (truD d) fun b => K b a1) B := rfl
theorem dt_tru {X : Cx} {E : XK} {ea : Expr} {te : TE} {w : WE} (h : DE X E ea te w) (he : ∀ whole, isTrue ea X.env whole = (do let v ← whole; standAt ea.pos; holding [v] (truthy v)) := by intro _; rfl) : DT X E ea (tTru X.K te) (wTru w) := ⟨pt_truth h.pe he, by
  intro a K B k σ F H fps x Q q b
  refine h.so a _ B k σ F H fps x _ (fun r1 a1 v1 F1 H1 k1 n1 x1 l1 o1 w1 => ?_) b
  obtain ⟨d, e1, k1⟩ := so_e k1
  obtain ⟨c, e2, k1⟩ := so_e k1
  exact ⟨c, truD_v (vw_rep x1 o1 e1) e2, q c a1 F1 H1 k1 n1 x1 l1⟩⟩
section
variable {prog : Program} {w : World} {A : Around} {E : Value → Shared → Prop} {s : Shared} {l : Addr} {its : List Value} {ns : List Int} {Q : Value → Shared → Prop}
theorem maxT_raw (hh : A.handled = none) (hl : s.heap.IsTuple l its.toArray) (hi : IntsAre its ns) (hne : 0 < ns.length)
    (h : ∀ h' tk M t', (∀ b o, s.heap.get? b = some o → h'.get? b = some o) → M ∈ ns → (∀ a, a ∈ ns → a ≤ M) → Q (.int M t') { s with heap := h', toks := tk }) : wpAny (model prog w) A (call (.builtin "max") [.ref l]) Q E s := by
  obtain ⟨xs, e⟩ := hi.allInts.items
  have hn : numsOf (intItems xs).toList = ns := by rw [← e]; exact hi.numsOf
  rw [nums_intItems] at hn
  subst hn
  rw [e] at hl
  have hsz : 0 < xs.size := by simpa using hne
  have hlt : l < s.heap.objs.size := by obtain ⟨_, e, _⟩ := hl; exact Heap.lt_size e
  refine PySem.call_max_walk (PySem.wpAny_pyIter_tuple hl ?_)
  refine ⟨_, [_, l], [_], _, _, _, _, rfl, Walks.tuple (A := A.in1) hh _ l (Nat.ne_of_lt hlt) (intItems xs), ⟨⟨_, Heap.get?_push_size _ rfl, rfl, rfl⟩, hl.push _⟩, fun b hb => ?_, by simpa [intItems] using hsz,
    CmpOf.ints_gt (numAt xs) (fun _ _ => intItems_at), fun v h' tk hP hk => ?_⟩
  · show b < (s.heap.push _).objs.size
    rw [Heap.size_push]
    rcases List.mem_cons.mp hb with rfl | hb
    · exact Nat.lt_succ_self _
    · rcases List.mem_cons.mp hb with rfl | hb
      · exact Nat.lt_succ_of_lt hlt
      · cases hb
  · have hP : (intItems xs)[argBest (fun i j => decide (numAt xs i > numAt xs j)) (xs.size - 1)]? = some v := by simpa [intItems] using hP
    obtain ⟨t, rfl⟩ := intItems_at hP
    obtain ⟨h1, h2⟩ := argBest_gt (numAt xs) (xs.size - 1)
    refine h h' tk _ t (fun b o e => hk b o (fun hm => ?_) (Heap.get?_push_of_some _ e)) ?_ fun a ha => ?_
    · rcases List.mem_cons.mp hm with e1 | hm
      · exact absurd (e1 ▸ Heap.lt_size e) (Nat.lt_irrefl _)
      · cases hm
    · rw [numAt_eq]; exact PySem.getD_mem (by rw [List.length_map, Array.length_toList]; omega)
    · obtain ⟨j, hj, rfl⟩ := mem_getD ha
      rw [List.length_map, Array.length_toList] at hj
      rw [← numAt_eq]; exact h2 j (by omega)
end
section
variable {X : Cx}
def rMaxS (K : PySem.W.Frag) : List V → Hp → VK → Prop := fun vs H Q => ∃ (a : Addr) (ns : List Int), vs = [V.ref a] ∧ (SqL K H a (ns.map V.int) ∨ SqT K H a (ns.map V.int)) ∧ 0 < ns.length ∧ ∀ m, m ∈ ns → (∀ y, y ∈ ns → y ≤ m) → Q (.int m) H
theorem cr_maxS (hc : X.calm = true) : CallR X (.builtin "max") (rMaxS X.K) := by
  intro pins s σ H vs us Q I r h
  obtain ⟨a, ns, rfl, hs, hne, q⟩ := h
  rcases hs with hs | hs
  · exact cr_max hc pins s σ H _ us Q I r ⟨a, ns, rfl, hs, hne, q⟩
  · obtain ⟨its, rv, hl, _⟩ := I.tuple hs
    rw [Vals.ref1 r]
    exact maxT_raw (I.ok.hd hc) hl rv.ints hne fun h' tk m t' hk h1 h2 => ⟨.int _, H, I.kept hk, ⟨_, rfl⟩, q m h1 h2⟩
def gMaxS : GC := fun a xs K => ∃ x ns m, xs = [x] ∧ intsO (seD (vw a x)) = some ns ∧ 0 < ns.length ∧ m ∈ ns ∧ (∀ y ∈ ns, y ≤ m) ∧ K (.d (.int m))
theorem intsO_s {o : Option D} {ns : List Int} (h : intsO (seD o) = some ns) : o = some (.list (ns.map PyData.int)) ∨ o = some (.tuple (ns.map PyData.int)) := by
  match o, h with
  | some (.list b), h =>
    have := intsO_e (o := some (.list b)) h
    exact .inl this
  | some (.tuple b), h =>
    have := intsO_e (o := some (.list b)) h
    cases this
    exact .inr rfl
theorem d_maxS (hc : X.calm = true) : CallR X (.builtin "max") (rMaxS X.K) ∧ RCS (rMaxS X.K) gMaxS := ⟨cr_maxS hc, by
  intro a σ F H fps xs vs ok hv Kz k Q q
  obtain ⟨x, ns, m, rfl, e, h0, h1, h2, k⟩ := k
  obtain ⟨v, rfl, h⟩ := vals_one hv
  have fin : ∀ p, v = .ref p → (SqL X.K H p (ns.map V.int) ∨ SqT X.K H p (ns.map V.int)) → rMaxS X.K [v] H Q := fun p e hs => ⟨p, ns, by rw [e], hs, h0, fun m' h3 h4 => by
    rw [max_one h3 h4 h1 h2]
    exact q _ _ F H k ok (Le.refl _ _ _) (.int _) trivial⟩
  rcases intsO_s e with e | e
  · obtain ⟨p, rfl, hp⟩ := vw_ints ok h e
    exact fin p rfl (.inl (SqL.of hp))
  · obtain ⟨p, vs, rfl, _, hp, r⟩ := vw_tup ok h e
    rw [RepAll.of_ints r] at hp
    exact fin p rfl (.inr (SqT.of hp))⟩
end
theorem u_maxS {a : AS} {x : Ev} {K : Ev → Prop} : gMaxS a [x] K = so (intsO (seD (vw a x))) fun ns => ∃ m, m ∈ ns ∧ (∀ y ∈ ns, y ≤ m) ∧ K (.d (.int m)) := by
  refine propext ⟨fun ⟨x', ns, m, e, e1, h0, h1, h2, k⟩ => ?_, fun k => ?_⟩
  · cases e; rw [e1]; exact ⟨m, h1, h2, k⟩
  · obtain ⟨ns, e1, m, h1, h2, k⟩ := so_e k
    exact ⟨x, ns, m, rfl, e1, List.length_pos_of_mem h1, h1, h2, k⟩
theorem u_lstRg2 {wa wb : WE} {a : AS} {K : Ev → AS → Prop} {B : XD → AS → Prop} : wLstRg2 wa wb a K B = wa a (fun r a1 => wb a1 (fun u a2 => so (inD (vw a2 r)) fun i => so (inD (vw a2 u)) fun j => side (0 ≤ i ∧ i ≤ 100000 ∧ 0 ≤ j ∧ j ≤ 100000) (K (.nl (rangeD i (j - i).toNat)) a2)) B) B := by
  unfold wLstRg2
  congr 1; funext r a1
  congr 1; funext u a2
  refine propext ⟨fun ⟨i, j, e1, e2, h1, h2, h3, h4, k⟩ => ?_, fun k => ?_⟩
  · rw [e1, e2]; exact ⟨⟨h1, h2, h3, h4⟩, k⟩
  · rw [← so_in] at k; obtain ⟨i, e1, k⟩ := k; rw [← so_in] at k; obtain ⟨j, e2, ⟨h1, h2, h3, h4⟩, k⟩ := k; exact ⟨i, j, e1, e2, h1, h2, h3, h4, k⟩
theorem u_isB {f : Bool → Bool} {we : WE} {a : AS} {K : Ev → AS → Prop} {B : XD → AS → Prop} : wIsB f we a K B = we a (fun r a1 => so (boolE r) fun b => K (.d (.bool (f b))) a1) B := rfl
theorem boolE_b {b : Bool} : boolE (.d (.bool b)) = some b := rfl
def oE : Ev → Option Nat
  | .o k => some k
  | _ => none
theorem oE_o {k : Nat} : oE (.o k) = some k := rfl
theorem u_setL {wo wi wv : WE} {a : AS} {A : AE} : wSetL wo wi wv a A = wv a (fun r a1 => wo a1 (fun x a2 => wi a2 (fun y a3 => so (oE x) fun k => so (lsAt a3.ow k) fun xs => so (frz r) fun d => so (inD (vw a3 y)) fun n => so (ixN xs.length n) fun j =>
    A.nx { a3 with ow := a3.ow.set k (.ls (xs.set j d)) }) A.xb) A.xb) A.xb := by
  unfold wSetL
  congr 1; funext r a1
  congr 1; funext x a2
  congr 1; funext y a3
  refine propext ⟨fun ⟨k, xs, d, n, j, ex, ec, er, ey, hm, q⟩ => ?_, fun q => ?_⟩
  · subst ex
    rw [oE_o, so_s, ← so_lsAt]
    refine ⟨xs, ec, ?_⟩
    rw [er, so_s, ey, inD_i, so_s, hm]
    exact q
  · obtain ⟨k, e1, q⟩ := so_e q
    rw [← so_lsAt] at q
    obtain ⟨xs, ec, q⟩ := q
    obtain ⟨d, er, q⟩ := so_e q
    rw [← so_in] at q
    obtain ⟨n, ey, q⟩ := q
    obtain ⟨j, hm, q⟩ := so_e q
    refine ⟨k, xs, d, n, j, ?_, ec, er, ey, hm, q⟩
    unfold oE at e1
    split at e1
    · cases e1; rfl
    · cases e1
def pxO : Option Sl → Option Px
  | some (.px p) => some p
  | _ => none
theorem pxO_p {p : Px} : pxO (some (.px p)) = some p := rfl
theorem u_callW {i : Nat} {Ws : List Wk} {wa : WA} {a : AS} {K : Ev → AS → Prop} {B : XD → AS → Prop} : wCallW i Ws wa a K B = so (pxO (a.sl[i]?)) fun p => so (Ws[p.tag]?) fun W => side (W.px = p) (wCall W.c W.m wa a K B) := by
  unfold wCallW
  cases e : a.sl[i]? with
  | none => rfl
  | some z =>
    cases z with
    | px p =>
      rw [pxO_p, so_s]
      show (match Ws[p.tag]? with | some W => W.px = p ∧ wCall W.c W.m wa a K B | none => False) = _
      cases Ws[p.tag]? with
      | none => rfl
      | some W => rfl
    | _ => rfl
theorem u_ctL {we : WE} {args : List Sl} {ow : List Own} {KQ : Ev → List Own → Prop} {KB : XD → List Own → Prop} : ctL we args ow KQ KB = we ⟨args, ow, ow.length⟩ (fun r a => so (outEv a r) fun r' => KQ r' (a.ow.take a.n)) (fun x a => KB x (a.ow.take a.n)) := by
  unfold ctL
  congr 1; funext r a
  exact so_any _ _
def ndD : Ev → Option (List (D × D))
  | .nd kvs => some kvs
  | _ => none
theorem ndD_n {kvs : List (D × D)} : ndD (.nd kvs) = some kvs := rfl
theorem u_lk {we : WE} {a : AS} {K : Ev → AS → Prop} {B : XD → AS → Prop} : wLk we a K B = we a (fun r a1 => so (ndD r) fun kvs => K (.d (.dict kvs)) a1) B := by
  unfold wLk
  congr 1; funext r a1
  refine propext ⟨fun ⟨kvs, e, k⟩ => by subst e; exact k, fun k => ?_⟩
  obtain ⟨kvs, e, k⟩ := so_e k
  refine ⟨kvs, ?_, k⟩
  unfold ndD at e
  split at e
  · cases e; rfl
  · cases e
def dcAt (ow : List Own) (k : Nat) : Option (List (D × D)) := match ow[k]? with
  | some (.dc kvs) => some kvs
  | _ => none
theorem dcAt_e {ow : List Own} {k : Nat} {kvs : List (D × D)} (h : dcAt ow k = some kvs) : ow[k]? = some (.dc kvs) := by
  unfold dcAt at h
  split at h
  · rename_i kvs' e
    cases h
    exact e
  · cases h
theorem lkS_i {i : Nat} {w : WS} {a : AS} {A : AE} (h : so (celO (a.sl[i]?)) fun k => so (dcAt a.ow k) fun kvs => side (a.n ≤ k ∧ NoC k i a.sl) (w { a with sl := a.sl.set i (.d (.dict kvs)), ow := a.ow.set k .gone } A)) : wLkS i w a A := by
  obtain ⟨k, hk, h⟩ := so_e h
  obtain ⟨kvs, hx, ⟨h1, h2⟩, h⟩ := so_e h
  refine ⟨k, kvs, ?_, dcAt_e hx, h1, h2.at, h⟩
  unfold celO at hk
  split at hk
  · next k' e => cases hk; exact e
  · cases hk
end DL
namespace DL
open PySem PySem.Spec PyProof.Rows L2
theorem list_extend_tup (l : Addr) (items : Array Value) (n : Nat) (b : Addr) (items2 : Array Value) (n2 : Nat) (dd : Option Addr) (sl : Array (Option Value)) (hs0 : ¬(!items.isEmpty && Builtin.List.listTooLong (items.size + items2.size)) = true) (hs1 : items.size ≤ sizeLine) (hs2 : items.size + items2.size ≤ sizeLine + 1) :
    Meets (Builtin.«list.extend» ⟨[.ref l, .ref b], []⟩) (fun _ R s => s.heap.get? l = some { cls := .type "list", dict := none, data := .seq items n, slots := #[] } ∧ s.heap.get? b = some { cls := .type "tuple", dict := dd, data := .seq items2 n2, slots := sl } ∧ R (.ok (.ret Value.none)) { s with heap := s.heap.update l (Obj.mapSeq fun x => x ++ items2), toks := s.toks }) :=
  .of_wp fun prog w A R s h => by
    obtain ⟨hp, g, d, tk, os⟩ := s; obtain ⟨hl, hb, h⟩ := h; have f1 := AutoSeq1.idx_int; have f2 := AutoSeq1.sub_tuple_tuple; have f3 := AutoSeq1.sub_list_list; have f4 := AutoSeq1.sub_tuple_list; have f5 := AutoSeq1.sub_list_tuple
    have hz' : (items ++ items2).size ≤ sizeLine + 1 := by rw [Array.size_append]; exact hs2
    wp_walk using (wpAny_updateSeq hl rfl (hz := hs1) (_hz' := hz')), wpAny_loadPart' hl, wpAny_loadPart' hb
    exact ⟨_, rfl, h⟩
section
variable {X : Cx}
def rExtT : V → List V → Hp → VK → Prop := fun x vs H Q => ∃ l b xs zs, x = .ref l ∧ vs = [.ref b] ∧ H l = some (.lst xs) ∧ H b = some (.tup zs) ∧ xs.length + zs.length ≤ sizeLine ∧ Q .non (upd H l (.lst (xs ++ zs)))
theorem mt_extT : MtM X "list.extend" rExtT := by
  intro pins s σ H x vs v us Q I rx rv h
  obtain ⟨l, b, xs, zs, rfl, rfl, hH, hB, hz, q⟩ := h
  cases rx
  obtain ⟨u, rfl, ru⟩ := rv.one
  cases ru
  obtain ⟨z, its, n, r, hl, e⟩ := I.lstM hH
  obtain ⟨its2, r2, ⟨⟨cls, dd, data, sl⟩, e2, hc, n2, hd⟩, hl2⟩ := I.tuple (SqT.of hB)
  simp only at hc hd
  subst hc hd
  have z2 := r.length
  have z3 := r2.length
  have hsz : its.toArray.size + its2.toArray.size ≤ sizeLine := by rw [List.size_toArray, List.size_toArray]; omega
  have hlong : ¬ (!its.toArray.isEmpty && Builtin.List.listTooLong (its.toArray.size + its2.toArray.size)) = true := by
    rw [notLongL hsz, Bool.and_false]
    exact Bool.false_ne_true
  refine call_meets F.slot_list_extend ⟨_, e, rfl⟩ F.entry_list_extend (F.args_list_extend_2 _ _)
    (list_extend_tup l its.toArray n b its2.toArray n2 dd sl hlong (by rw [List.size_toArray]; omega) (by omega)) ⟨e, e2, ?_⟩
  refine ⟨.non, _, I.lset (its' := its ++ its2) hH e (by simp) (r.append r2) ?_, rfl, q⟩
  rw [List.length_append]
  omega
def rExt : V → List V → Hp → VK → Prop := fun x vs H Q => rExtend x vs H Q ∨ rExtT x vs H Q
theorem mt_ext : MtM X "list.extend" rExt := by
  intro pins s σ H x vs v us Q I rx rv h
  rcases h with h | h
  · exact mt_extend pins s σ H x vs v us Q I rx rv h
  · exact mt_extT pins s σ H x vs v us Q I rx rv h
def gExt : GM := fun a k xs K => ∃ x d ds ys, xs = [x] ∧ frz x = some d ∧ itemsD d = some ds ∧ a.ow[k]? = some (.ls ys) ∧ ys.length ≤ 100000 ∧ ds.length ≤ 100000 ∧ K (.d .none) { a with ow := a.ow.set k (.ls (ys ++ ds)) }
theorem rms_ext : RMS rExt gExt := by
  intro E a B n σ F0 H0 F H fps k p ps xs vs K hn x l hp ov wv g Q q
  obtain ⟨y, d, ds, ys, rfl, e1, ei, e2, hz, hz2, kk⟩ := g
  obtain ⟨v, rfl, o⟩ := vals_one ov
  have nw : NewOk H0 y v := by cases wv with | cons h _ _ => exact h
  obtain ⟨F2, f, r⟩ := freeze_one (H0 := H0) x o.w nw e1
  obtain ⟨rfl, us, hu, ru⟩ := cell_one f.ok hp e2
  obtain ⟨b, zs, rfl, hb, rz⟩ := vw_items f.ok (r := .d d) (v := v) (d := d) r rfl ei
  have hlz : us.length + zs.length ≤ sizeLine := by rw [ru.length, rz.length, sizeLine_eq]; omega
  have rz2 : RepAll F2 zs ds := by
    cases d with
    | list xs =>
      cases ei
      cases r with
      | lst h1 h2 =>
        rcases hb with hb | hb
        · rw [f.ok.sub _ _ h1] at hb; cases hb; exact h2
        · rw [f.ok.sub _ _ h1] at hb; cases hb
    | tuple xs =>
      cases ei
      cases r with
      | tup h1 h2 =>
        rcases hb with hb | hb
        · rw [f.ok.sub _ _ h1] at hb; cases hb
        · rw [f.ok.sub _ _ h1] at hb; cases hb; exact h2
    | _ => cases ei
  obtain ⟨x3, l3⟩ := f.ok.setCell (o := .lst (us ++ zs)) (c := .ls (ys ++ ds)) hp e2 ⟨p, _, rfl, upd_same, ru.app rz2⟩
  have fin := q (.d .none) _ .non F2 _ kk hn x3 ((f.le l).trans l3) .non trivial
  rcases hb with hb | hb
  · exact .inl ⟨p, b, us, zs, rfl, rfl, hu, hb, hlz, fin⟩
  · exact .inr ⟨p, b, us, zs, rfl, rfl, hu, hb, hlz, fin⟩
theorem m_extend : MtR X "list.extend" rExt ∧ RMS rExt gExt := ⟨mt_ext, rms_ext⟩
end
theorem u_ext {a : AS} {k : Nat} {x : Ev} {K : Ev → AS → Prop} : gExt a k [x] K = so (seD (frz x)) fun ds => so (lsAt a.ow k) fun ys => side (ys.length ≤ 100000 ∧ ds.length ≤ 100000) (K (.d .none) { a with ow := a.ow.set k (.ls (ys ++ ds)) }) := by
  unfold gExt
  refine propext ⟨fun ⟨x', d, ds, ys, e, h1, h2, h3, h4, h5, q⟩ => ?_, fun h => ?_⟩
  · cases e
    rw [← so_se, h1]
    exact ⟨d, ds, rfl, h2, by rw [← so_lsAt]; exact ⟨ys, h3, ⟨h4, h5⟩, q⟩⟩
  · rw [← so_se] at h
    obtain ⟨d, ds, h1, h2, h⟩ := h
    rw [← so_lsAt] at h
    obtain ⟨ys, h3, ⟨h4, h5⟩, q⟩ := h
    exact ⟨x, d, ds, ys, rfl, h1, h2, h3, h4, h5, q⟩
def dvO {P : Sort _} (o : Option (List (D × D))) (F : List (D × D) → P) (G : P) : P := match o with
  | some kvs => F kvs
  | none => G
theorem dvO_s {P : Sort _} {kvs : List (D × D)} {F : List (D × D) → P} {G : P} : dvO (some kvs) F G = F kvs := rfl
theorem dvO_n {P : Sort _} {F : List (D × D) → P} {G : P} : dvO none F G = G := rfl
def dcO : Option Own → Option (List (D × D))
  | some (.dc kvs) => some kvs
  | some (.lk _ kvs) => some kvs
  | _ => none
theorem dcO_dc {kvs : List (D × D)} : dcO (some (.dc kvs)) = some kvs := rfl
theorem dcO_lk {o : Obj} {kvs : List (D × D)} : dcO (some (.lk o kvs)) = some kvs := rfl
theorem dcO_ls {xs : List D} : dcO (some (.ls xs)) = none := rfl
theorem dcO_st {t : Nat} : dcO (some (.st t)) = none := rfl
theorem dvw_o {a : AS} {k : Nat} : dvw a (.o k) = dcO (a.ow[k]?) := by
  unfold dvw dcO
  rfl
theorem dvw_d {a : AS} {kvs : List (D × D)} : dvw a (.d (.dict kvs)) = some kvs := rfl
theorem dvw_nd {a : AS} {kvs : List (D × D)} : dvw a (.nd kvs) = some kvs := rfl
theorem dvw_nl {a : AS} {xs : List D} : dvw a (.nl xs) = none := rfl
theorem dvw_l {a : AS} {xs : List D} : dvw a (.d (.list xs)) = none := rfl
theorem dvw_t {a : AS} {xs : List D} : dvw a (.d (.tuple xs)) = none := rfl
theorem dvw_i {a : AS} {i : Int} : dvw a (.d (.int i)) = none := rfl
theorem u_inA {a : AS} {x y : Ev} {K : Ev → Prop} : gInA false a x y K = dvO (dvw a y) (fun kvs => so (vw a x) fun kd => side (KeyOk kvs kd) (K (.d (.bool (dlook kvs kd).isSome)))) (gIn false a x y K) := by
  unfold gInA dvO
  cases dvw a y with
  | none => rfl
  | some kvs => exact so_any _ _
theorem u_notinA {a : AS} {x y : Ev} {K : Ev → Prop} : gInA true a x y K = dvO (dvw a y) (fun kvs => so (vw a x) fun kd => side (KeyOk kvs kd) (K (.d (.bool (!(dlook kvs kd).isSome))))) (gIn true a x y K) := by
  unfold gInA dvO
  cases dvw a y with
  | none => rfl
  | some kvs => exact so_any _ _
theorem u_ixA {a : AS} {x y : Ev} {K : Ev → Prop} : gIxA a x y K = dvO (dvw a x) (fun kvs => so (vw a y) fun kd => side (KeyOk kvs kd) (so (dlook kvs kd) fun z => K (.d z))) (gIx a x y K) := by
  unfold gIxA dvO
  cases dvw a x with
  | none => rfl
  | some kvs =>
    refine propext ⟨fun ⟨kd, z, e1, h, e2, k⟩ => ?_, fun k => ?_⟩
    · show so (vw a y) _
      rw [e1]
      exact ⟨h, by rw [e2]; exact k⟩
    · obtain ⟨kd, e1, h, k⟩ := so_e k
      obtain ⟨z, e2, k⟩ := so_e k
      exact ⟨kd, z, e1, h, e2, k⟩
theorem u_listA {a : AS} {x : Ev} {K : Ev → Prop} : gListA a [x] K = dvO (dvw a x) (fun kvs => side (dOk x kvs ∧ kvs.length ≤ 100000) (K (.nl (kvs.map (·.1))))) (gList a [x] K) := by
  unfold gListA
  show (match dvw a x with | some (kvs : List (D × D)) => dOk x kvs ∧ kvs.length ≤ 100000 ∧ K (.nl (kvs.map Prod.fst)) | none => gList a [x] K) = _
  cases dvw a x with
  | none => rfl
  | some kvs => exact propext ⟨fun ⟨h1, h2, k⟩ => ⟨⟨h1, h2⟩, k⟩, fun ⟨⟨h1, h2⟩, k⟩ => ⟨h1, h2, k⟩⟩
def CanSortK (r : Ev) (kvs : List (D × D)) : Prop := dOk r kvs ∧ PySem.W.AllAlike (kvs.map (·.1)) ∧ PySem.W.Sortable (kvs.map (·.1)) ∧ (kvs.map (·.1)).length ≤ 100000 ∧ PyData.depthAll (kvs.map (·.1)) ≤ 150
theorem u_sortA {a : AS} {x : Ev} {K : Ev → Prop} : gSortA a [x] K = dvO (dvw a x) (fun kvs => side (CanSortK x kvs) (K (.nl (sortD (kvs.map (·.1)))))) (gSort a [x] K) := by
  unfold gSortA
  show (match dvw a x with | some (kvs : List (D × D)) => dOk x kvs ∧ PySem.W.AllAlike (kvs.map Prod.fst) ∧ PySem.W.Sortable (kvs.map Prod.fst) ∧ (kvs.map Prod.fst).length ≤ 100000 ∧ PyData.depthAll (kvs.map Prod.fst) ≤ 150 ∧ K (.nl (sortD (kvs.map Prod.fst))) | none => gSort a [x] K) = _
  cases dvw a x with
  | none => rfl
  | some kvs => exact propext ⟨fun ⟨h1, h2, h3, h4, h5, k⟩ => ⟨⟨h1, h2, h3, h4, h5⟩, k⟩, fun ⟨⟨h1, h2, h3, h4, h5⟩, k⟩ => ⟨h1, h2, h3, h4, h5, k⟩⟩
theorem u_lenA {a : AS} {x : Ev} {K : Ev → Prop} : gLenA a [x] K = dvO (dvw a x) (fun kvs => side (dOk x kvs ∧ kvs.length ≤ 100000) (K (.d (.int (kvs.length : Nat))))) (gLen a [x] K) := by
  unfold gLenA
  show (match dvw a x with | some (kvs : List (D × D)) => dOk x kvs ∧ kvs.length ≤ 100000 ∧ K (.d (.int (kvs.length : Nat))) | none => gLen a [x] K) = _
  cases dvw a x with
  | none => rfl
  | some kvs => exact propext ⟨fun ⟨h1, h2, k⟩ => ⟨⟨h1, h2⟩, k⟩, fun ⟨⟨h1, h2⟩, k⟩ => ⟨h1, h2, k⟩⟩
theorem u_put {wd wy wv : WE} {a : AS} {A : AE} : wPut wd wy wv a A = wv a (fun r a1 => wd a1 (fun x a2 => wy a2 (fun y a3 => so (oE x) fun k => so (dcAt a3.ow k) fun kvs => so (frz r) fun d => so (vw a3 y) fun kd => side (KeyOk kvs kd ∧ kvs.length ≤ 100000)
    (A.nx { a3 with ow := a3.ow.set k (.dc (dput kvs kd d)) })) A.xb) A.xb) A.xb := by
  unfold wPut
  congr 1; funext r a1
  congr 1; funext x a2
  congr 1; funext y a3
  refine propext ⟨fun ⟨k, kvs, d, kd, ex, ec, er, ey, ko, hl, q⟩ => ?_, fun q => ?_⟩
  · subst ex
    rw [oE_o, so_s, show dcAt a3.ow k = some kvs by unfold dcAt; rw [ec], so_s, er, so_s, ey]
    exact ⟨⟨ko, hl⟩, q⟩
  · obtain ⟨k, e1, q⟩ := so_e q
    obtain ⟨kvs, ec, q⟩ := so_e q
    obtain ⟨d, er, q⟩ := so_e q
    obtain ⟨kd, ey, ⟨ko, hl⟩, q⟩ := so_e q
    refine ⟨k, kvs, d, kd, ?_, dcAt_e ec, er, ey, ko, hl, q⟩
    unfold oE at e1
    split at e1
    · cases e1; rfl
    · cases e1
def dE : Ev → Option D
  | .d x => some x
  | _ => none
theorem dE_d {x : D} : dE (.d x) = some x := rfl
theorem u_pnil {a : AS} {K : List (D × D) → AS → Prop} {B : XD → AS → Prop} : wpNil a K B = K [] a := rfl
theorem u_pcons {wk wv : WE} {wr : WPs} {a : AS} {K : List (D × D) → AS → Prop} {B : XD → AS → Prop} : wpCons wk wv wr a K B = wk a (fun rk a1 => wv a1 (fun rv a2 => so (dE rk) fun kd => so (frz rv) fun d => wr a2 (fun kvs a3 => K ((kd, d) :: kvs) a3) B) B) B := by
  unfold wpCons
  congr 1; funext rk a1
  congr 1; funext rv a2
  refine propext ⟨fun ⟨kd, d, e1, e2, k⟩ => ?_, fun k => ?_⟩
  · subst e1; rw [dE_d, so_s, e2]; exact k
  · obtain ⟨kd, e1, k⟩ := so_e k
    obtain ⟨d, e2, k⟩ := so_e k
    refine ⟨kd, d, ?_, e2, k⟩
    unfold dE at e1
    split at e1
    · cases e1; rfl
    · cases e1
theorem u_disp {w : WPs} {a : AS} {K : Ev → AS → Prop} {B : XD → AS → Prop} : wDisp w a K B = w a (fun kvs a1 => side (LotsOk kvs ∧ kvs.length ≤ 100000) (K (.nd (dispD kvs)) a1)) B := by
  unfold wDisp
  congr 1; funext kvs a1
  exact propext ⟨fun ⟨h1, h2, k⟩ => ⟨⟨h1, h2⟩, k⟩, fun ⟨⟨h1, h2⟩, k⟩ => ⟨h1, h2, k⟩⟩
def itE : Ev → Option (List D)
  | .d (.dict kvs) => some (kvs.map (·.1))
  | r => (frz r).bind itemsD
theorem itE_d {kvs : List (D × D)} : itE (.d (.dict kvs)) = some (kvs.map (·.1)) := rfl
theorem itE_l {xs : List D} : itE (.d (.list xs)) = some xs := rfl
theorem itE_t {xs : List D} : itE (.d (.tuple xs)) = some xs := rfl
theorem itE_nl {xs : List D} : itE (.nl xs) = some xs := rfl
theorem u_any {we : WE} {a : AS} {K : List D → AS → Prop} {B : XD → AS → Prop} : wiAny we a K B = we a (fun r a1 => so (itE r) fun xs => K xs a1) B := by
  unfold wiAny
  congr 1; funext r a1
  refine propext ⟨fun h => ?_, fun h => ?_⟩
  · rcases h with ⟨d, ds, e1, e2, k⟩ | ⟨kvs, rfl, k⟩
    · cases r with
      | d x =>
        cases e1
        cases d with
        | list xs => cases e2; exact k
        | tuple xs => cases e2; exact k
        | _ => cases e2
      | nl xs => cases e1; cases e2; exact k
      | _ => cases e1
    · exact k
  · obtain ⟨xs, e, k⟩ := so_e h
    unfold itE at e
    split at e
    · cases e; exact .inr ⟨_, rfl, k⟩
    · obtain ⟨d, e1, e2⟩ := Option.bind_eq_some_iff.mp e
      exact .inl ⟨d, xs, e1, e2, k⟩
def dctE : Ev → Option (List (D × D))
  | .d (.dict kvs) => some kvs
  | _ => none
theorem dctE_d {kvs : List (D × D)} : dctE (.d (.dict kvs)) = some kvs := rfl
theorem dctE_e {r : Ev} {kvs : List (D × D)} (h : dctE r = some kvs) : r = .d (.dict kvs) := by
  unfold dctE at h
  split at h
  · cases h; rfl
  · cases h
theorem so_dct {r : Ev} {F : List (D × D) → Prop} : (∃ kvs, r = .d (.dict kvs) ∧ F kvs) = so (dctE r) F := propext ⟨fun ⟨kvs, e, k⟩ => by subst e; exact k, fun k => by obtain ⟨kvs, e, k⟩ := so_e k; exact ⟨kvs, dctE_e e, k⟩⟩
theorem u_itval {we : WE} {a : AS} {K : List D → AS → Prop} {B : XD → AS → Prop} : wiVal we a K B = we a (fun r a1 => so (dctE r) fun kvs => K (kvs.map (·.2)) a1) B := by
  unfold wiVal
  congr 1; funext r a1
  exact so_dct
theorem u_ititem {we : WE} {a : AS} {K : List D → AS → Prop} {B : XD → AS → Prop} : wiItem we a K B = we a (fun r a1 => so (dctE r) fun kvs => K (pairsD kvs) a1) B := by
  unfold wiItem
  congr 1; funext r a1
  exact so_dct
theorem u_listV {we : WE} {a : AS} {K : Ev → AS → Prop} {B : XD → AS → Prop} : wListV we a K B = we a (fun r a1 => so (dvw a1 r) fun kvs => side (dOk r kvs ∧ kvs.length ≤ 100000) (K (.nl (kvs.map (·.2))) a1)) B := by
  unfold wListV
  congr 1; funext r a1
  refine propext ⟨fun ⟨kvs, e, h1, h2, k⟩ => ?_, fun k => ?_⟩
  · rw [e]; exact ⟨⟨h1, h2⟩, k⟩
  · obtain ⟨kvs, e, ⟨h1, h2⟩, k⟩ := so_e k
    exact ⟨kvs, e, h1, h2, k⟩
theorem getapp1 {ow r : List Own} {c d : Own} : (ow ++ c :: d :: r)[ow.length + 1]? = some d := by
  rw [List.getElem?_append_right (by omega), Nat.add_sub_cancel_left]; rfl
theorem cset1' {ow r : List Own} {c d e : Own} : (ow ++ c :: d :: r).set (ow.length + 1) e = ow ++ c :: e :: r := by
  rw [List.set_append_right _ _ (by omega), Nat.add_sub_cancel_left]; rfl
theorem dcAt_of {ow : List Own} {k : Nat} {kvs : List (D × D)} (h : ow[k]? = some (.dc kvs)) : dcAt ow k = some kvs := by
  unfold dcAt
  rw [h]
theorem dc0 {ow r : List Own} {k t : Nat} {kvs : List (D × D)} : dcAt (ow.set k (.st t) ++ .dc kvs :: r) ow.length = some kvs := dcAt_of cell0
theorem dc0' {ow r : List Own} {kvs : List (D × D)} : dcAt (ow ++ .dc kvs :: r) ow.length = some kvs := dcAt_of getapp0
theorem dc1 {ow r : List Own} {k t : Nat} {c : Own} {kvs : List (D × D)} : dcAt (ow.set k (.st t) ++ c :: .dc kvs :: r) (ow.length + 1) = some kvs := dcAt_of cell1
theorem dc1' {ow r : List Own} {c : Own} {kvs : List (D × D)} : dcAt (ow ++ c :: .dc kvs :: r) (ow.length + 1) = some kvs := dcAt_of getapp1
theorem ls1' {ow r : List Own} {c : Own} {xs : List D} : lsAt (ow ++ c :: .ls xs :: r) (ow.length + 1) = some xs := lsAt_of getapp1
end DL
namespace DL
open PySem PySem.Spec PyProof.Rows L2
def SqB (b : Bool) (K : PySem.W.Frag) (H : Hp) (a : Addr) (xs : List V) : Prop := if b = true then SqT K H a xs else SqL K H a xs
def ItB (b : Bool) (h : Heap) (it a : Addr) (i : Nat) : Prop := if b = true then h.IsTupleIter it a i else h.IsListIter it a i
def IsB (b : Bool) (h : Heap) (a : Addr) (items : Array Value) : Prop := if b = true then h.IsTuple a items else h.IsList a items
theorem ItB.ob {b : Bool} {h : Heap} {it a : Addr} {i : Nat} (x : ItB b h it a i) : ∃ o, h.get? it = some o ∧ ∀ v, o.data ≠ .cell v := by
  unfold ItB at x
  split at x
  · obtain ⟨o, e, _, d⟩ := x; exact ⟨o, e, fun v q => by rw [d] at q; cases q⟩
  · obtain ⟨o, e, _, d⟩ := x; exact ⟨o, e, fun v q => by rw [d] at q; cases q⟩
theorem ItB.at {b : Bool} {h h' : Heap} {it a : Addr} {i : Nat} (x : ItB b h it a i) (k : ∀ o, h.get? it = some o → h'.get? it = some o) : ItB b h' it a i := by
  cases b with
  | true => exact Heap.IsTupleIter.at (show h.IsTupleIter it a i from x) k
  | false => exact Heap.IsListIter.at (show h.IsListIter it a i from x) k
theorem IsB.at {b : Bool} {h h' : Heap} {a : Addr} {items : Array Value} (x : IsB b h a items) (k : ∀ o, h.get? a = some o → h'.get? a = some o) : IsB b h' a items := by
  cases b with
  | true => exact Heap.IsTuple.at (show h.IsTuple a items from x) k
  | false => exact Heap.IsList.at (show h.IsList a items from x) k
theorem sqB_at {b : Bool} {X : Cx} {pins : List (Addr × Obj)} {σ : Sgm} {H : Hp} {s : Shared} {a : Addr} {xs : List V} (I : Inv X pins σ H s) (h : SqB b X.K H a xs) : ∃ its : List Value, Vals xs its ∧ IsB b s.heap a its.toArray := by
  cases b with
  | true =>
    obtain ⟨its, r, p, _⟩ := I.tuple (show SqT X.K H a xs from h)
    exact ⟨its, r, p⟩
  | false =>
    obtain ⟨its, r, p, _⟩ := I.list (show SqL X.K H a xs from h)
    exact ⟨its, r, p.isList⟩
theorem sqB_inj {b : Bool} {X : Cx} {pins : List (Addr × Obj)} {σ : Sgm} {H : Hp} {s : Shared} {a : Addr} {xs ys : List V} (I : Inv X pins σ H s) (h : SqB b X.K H a xs) (h' : SqB b X.K H a ys) : xs = ys := by
  cases b with
  | true => exact I.tuple_inj (show SqT X.K H a xs from h) h'
  | false => exact I.list_inj (show SqL X.K H a xs from h) h'
theorem side_draw {prog : Program} {w : World} {A : Around} {b : Bool} {it a : Addr} {items : Array Value} {i : Nat} {h : Heap} (hh : A.handled = none) (ne : a ≠ it) (x : ItB b h it a i) (y : IsB b h a items) :
    ∃ n St, Draws prog w A it [it, a] n (fun i v => items[i]? = some v) St ∧ St i h ∧ (i < items.size → n = items.size) ∧ (items.size ≤ i → n = i) ∧ ∀ j h, St j h → ItB b h it a j := by
  by_cases hi : i < items.size
  · cases b with
    | true => exact ⟨_, _, Draws.tuple hh it a ne items, ⟨x, y⟩, fun _ => rfl, fun z => by omega, fun j h z => z.1⟩
    | false => exact ⟨_, _, Draws.list hh it a ne items, ⟨x, y⟩, fun _ => rfl, fun z => by omega, fun j h z => z.1⟩
  · refine ⟨i, fun j h => j = i ∧ ItB b h it a j ∧ IsB b h a items, ⟨fun _ _ st => st.2.1.ob.elim fun o z => ⟨o, z.1⟩, fun _ _ _ st hk => ⟨st.1, st.2.1.at fun o e => hk it (by simp) o e, st.2.2.at fun o e => hk a (by simp) o e⟩,
      fun j s Q E hj st hQ => absurd st.1 (Nat.ne_of_lt hj), fun s Q E st hE => ?_⟩, ⟨rfl, x, y⟩, fun z => absurd z hi, fun _ => rfl, fun j h z => z.2.1⟩
    have hn : items[i]? = none := by simp; omega
    cases b with
    | true => exact wpAny_nextOf_tuple_end hh st.2.1 st.2.2 hn hE
    | false => exact wpAny_nextOf_list_end hh st.2.1 st.2.2 hn hE
theorem zip_sep (z TI TO i1 i2 a b : Addr) (d : [z, TI, TO, i1, i2].Nodup) (ha : ∀ c ∈ [z, TI, TO, i1, i2], c ≠ a) (hb : ∀ c ∈ [z, TI, TO, i1, i2], c ≠ b) : ZipSep2 z TI TO i1 i2 [i1, a] [i2, b] := by
  simp only [List.nodup_cons, List.mem_cons, List.not_mem_nil, or_false, not_or] at d
  have a1 := ha z (by simp); have a2 := ha TO (by simp); have a3 := ha i2 (by simp)
  have b1 := hb z (by simp); have b2 := hb TO (by simp); have b3 := hb i1 (by simp)
  obtain ⟨⟨d1, d2, d3, d4⟩, ⟨d5, d6, d7⟩, ⟨d8, d9⟩, d10, _⟩ := d
  have two : ∀ {x y w : Addr}, x ≠ y → x ≠ w → x ∉ [y, w] := fun {x y w} h1 h2 m => by
    rcases List.mem_cons.mp m with e | m
    · exact h1 e
    · exact h2 (List.mem_singleton.mp m)
  exact ⟨fun e => d1 e.symm, fun e => d2 e.symm, d5, d6, by simp, two d3 a1, two d8 a2, d7, by simp, two d4 b1, two d9 b2, two d10 b3, two (fun e => d10 e.symm) a3⟩
def ItzB (b1 b2 : Bool) (K : PySem.W.Frag) (a b : Addr) : It :=
  ⟨fun i H => ∃ (xs ys : List V) (x y : V), SqB b1 K H a xs ∧ SqB b2 K H b ys ∧ xs[i]? = some x ∧ ys[i]? = some y,
    fun i H v H' => ∃ T x y, v = .ref T ∧ H T = none ∧ H' = upd H T (.tup [x, y]) ∧ (∀ xs, SqB b1 K H a xs → xs[i]? = some x) ∧ ∀ ys, SqB b2 K H b ys → ys[i]? = some y,
    fun i H => ∃ xs ys : List V, SqB b1 K H a xs ∧ SqB b2 K H b ys ∧ (xs.length ≤ i ∨ ys.length ≤ i)⟩
theorem turn_zipB {P : Program} {w : World} {K : PySem.W.Frag} {elts : List Expr} {kk : Nat} {tpos : Pos} {b1 b2 : Bool} {a b z TI TO i1 i2 : Addr} (d : [z, TI, TO, i1, i2].Nodup) (na : ∀ c ∈ [z, TI, TO, i1, i2], c ≠ a) (nb : ∀ c ∈ [z, TI, TO, i1, i2], c ≠ b) :
    Turn P w K (.Tuple elts kk tpos) (ItzB b1 b2 K a b) [z, TI, TO, i1, i2] z (fun i h => IsZip h z TI TO .none ∧ IsTupOf2 h TI (.ref i1) (.ref i2) ∧ (∃ x y, IsTupOf2 h TO x y) ∧ ItB b1 h i1 a i ∧ ItB b2 h i2 b i) where
  mem := by simp
  obj := fun i h st c hc => by
    obtain ⟨hz, hTI, ⟨x, y, hTO⟩, h1, h2⟩ := st
    have e' : c = z ∨ c = TI ∨ c = TO ∨ c = i1 ∨ c = i2 := by simpa using hc
    rcases e' with q | q | q | q | q
    · rw [q]; exact ⟨_, hz, fun v q => nomatch q⟩
    · rw [q]; exact ⟨_, hTI, fun v q => nomatch q⟩
    · rw [q]; exact ⟨_, hTO, fun v q => nomatch q⟩
    · rw [q]; exact h1.ob
    · rw [q]; exact h2.ob
  keep := fun i h h' st k => by
    obtain ⟨hz, hTI, ⟨x, y, hTO⟩, h1, h2⟩ := st
    exact ⟨k z (by simp) _ hz, k TI (by simp) _ hTI, ⟨x, y, k TO (by simp) _ hTO⟩, h1.at fun o q => k i1 (by simp) o q, h2.at fun o q => k i2 (by simp) o q⟩
  item := by
    intro X hP hw hK hc i pins s σ H E I hf st hg
    subst hP hw hK
    obtain ⟨hz, hTI, hTO, h1, h2⟩ := st
    obtain ⟨xs, ys, x, y, hqx, hqy, hx, hy⟩ := hg
    obtain ⟨its, rv, p⟩ := sqB_at I hqx
    obtain ⟨its2, rv2, p2⟩ := sqB_at I hqy
    obtain ⟨u, hu, ru⟩ := rv.get hx
    obtain ⟨u2, hu2, ru2⟩ := rv2.get hy
    have hh := I.ok.hd hc
    obtain ⟨n1, S1, D1, s1, m1, _, k1⟩ := side_draw (prog := X.prog) (w := X.w) (A := X.A.in1) (by simpa using hh) (fun e => na i1 (by simp) e.symm) h1 p
    obtain ⟨n2, S2, D2, s2, m2, _, k2⟩ := side_draw (prog := X.prog) (w := X.w) (A := X.A.in1) (by simpa using hh) (fun e => nb i2 (by simp) e.symm) h2 p2
    have W := WalksT.zipD2 (A := X.A) (zip_sep z TI TO i1 i2 a b d na nb) D1 D2
    have hi1 : i < its.toArray.size := by have := (List.getElem?_eq_some_iff.mp hu).1; simpa using this
    have hi2 : i < its2.toArray.size := by have := (List.getElem?_eq_some_iff.mp hu2).1; simpa using this
    refine W.item i s _ _ (by rw [m1 hi1, m2 hi2]; omega) ⟨hz, hTI, hTO, s1, s2⟩ fun T vals h' tk hP hsz hT hM hk => ⟨_, rfl, W.go elts kk tpos i T _ _ _ hM fun h'' st'' hk'' => ?_⟩
    obtain ⟨y1, y2, hy1, hy2, ev⟩ := hP
    have ey1 : y1 = u := by
      have z : its[i]? = some y1 := by simpa using hy1
      rw [hu] at z; cases z; rfl
    have ey2 : y2 = u2 := by
      have z : its2[i]? = some y2 := by simpa using hy2
      rw [hu2] at z; cases z; rfl
    subst ey1 ey2 ev
    have wr : ∀ {c : Addr}, c ∉ [z, TI, TO, i1, i2] → c ∉ [z, TO, i1, i2] := fun {c} hb m => hb (by
      have : c = z ∨ c = TO ∨ c = i1 ∨ c = i2 := by simpa using m
      rcases this with e | e | e | e <;> subst e <;> simp)
    have hT2 : h''.IsTuple T #[y1, y2] := hT.at fun o z => hk'' T o (W.apart i T _ hM) z
    have new : ObjOk X.prog X.w (upd H T (.tup [x, y])) h'' T (.tup [x, y]) := ⟨by show 2 ≤ sizeLine; decide, [y1, y2], .cons ru (.cons ru2 .nil), hT2⟩
    have I1 : Inv X pins σ (upd H T (.tup [x, y])) { s with heap := h'', toks := tk } :=
      I.turnedNew (ch := [z, TI, TO, i1, i2]) (fun c ob hb q => hk'' c ob (wr hb) (hk c ob (wr hb) q)) hf hsz new
    refine ⟨.ref T, _, I1, rfl, ⟨T, x, y, rfl, I.hok.fresh hsz, rfl, fun l hl => by rw [sqB_inj I hl hqx]; exact hx, fun l hl => by rw [sqB_inj I hl hqy]; exact hy⟩, ⟨st''.1, st''.2.1, st''.2.2.1, k1 _ _ st''.2.2.2.1, k2 _ _ st''.2.2.2.2⟩, fun c hcm => ?_⟩
    have hb' : c < s.heap.objs.size := by
      obtain ⟨w1, w2, hTO⟩ := hTO
      have e' : c = z ∨ c = TI ∨ c = TO ∨ c = i1 ∨ c = i2 := by simpa using hcm
      rcases e' with q | q | q | q | q
      · rw [q]; exact Heap.lt_size hz
      · rw [q]; exact Heap.lt_size hTI
      · rw [q]; exact Heap.lt_size hTO
      · rw [q]; obtain ⟨o, e, _⟩ := h1.ob; exact Heap.lt_size e
      · rw [q]; obtain ⟨o, e, _⟩ := h2.ob; exact Heap.lt_size e
    rw [upd_ne (Nat.ne_of_lt (Nat.lt_of_lt_of_le hb' hsz))]
    exact (hf c hcm).1
  done := by
    intro X hP hw hK hc i pins s σ H E I hf st hg
    subst hP hw hK
    obtain ⟨hz, hTI, hTO, h1, h2⟩ := st
    obtain ⟨xs, ys, hqx, hqy, hend⟩ := hg
    obtain ⟨its, rv, p⟩ := sqB_at I hqx
    obtain ⟨its2, rv2, p2⟩ := sqB_at I hqy
    have hh := I.ok.hd hc
    have l1 := rv.length
    have l2 := rv2.length
    obtain ⟨n1, S1, D1, s1, m1, e1, k1⟩ := side_draw (prog := X.prog) (w := X.w) (A := X.A.in1) (by simpa using hh) (fun e => na i1 (by simp) e.symm) h1 p
    obtain ⟨n2, S2, D2, s2, m2, e2, k2⟩ := side_draw (prog := X.prog) (w := X.w) (A := X.A.in1) (by simpa using hh) (fun e => nb i2 (by simp) e.symm) h2 p2
    have W := WalksT.zipD2 (A := X.A) (zip_sep z TI TO i1 i2 a b d na nb) D1 D2
    have hi : i = min n1 n2 := by
      rw [List.size_toArray] at m1 m2 e1 e2
      rcases Nat.lt_or_ge i its.length with g1 | g1 <;> rcases Nat.lt_or_ge i its2.length with g2 | g2
      · omega
      · rw [m1 g1, e2 g2]; omega
      · rw [e1 g1, m2 g2]; omega
      · rw [e1 g1, e2 g2]; omega
    have s0 : S1 (min n1 n2) s.heap ∧ S2 (min n1 n2) s.heap := by rw [← hi]; exact ⟨s1, s2⟩
    exact W.done s _ _ ⟨hz, hTI, hTO, s0.1, s0.2⟩ fun h' tk hk => ⟨rfl, I.turnedL (ch := [z, TI, TO, i1, i2]) (fun c ob hb q => hk c ob (fun m => hb (by
      have : c = z ∨ c = TO ∨ c = i1 ∨ c = i2 := by simpa using m
      rcases this with e | e | e | e <;> subst e <;> simp)) q) hf⟩
  self := fun A i s Q E st h => wpAny_pyIter_zip st.1 h
def iZipB (K : PySem.W.Frag) (ta : TA) : TI := fun σ H R => ta σ H fun vs H1 => ∃ a b b1 b2 xs ys, vs = [.ref a, .ref b] ∧ SqB b1 K H1 a xs ∧ SqB b2 K H1 b ys ∧ R (ItzB b1 b2 K a b) H1
theorem begins_b (b : Bool) (a : Addr) (items : Array Value) : ∃ o : Obj, Begins (.ref a) o (fun h => IsB b h a items) ∧ ∀ h it, h.get? it = some o → ItB b h it a 0 := by
  cases b with
  | true => exact ⟨_, begins_tuple a items, fun h it e => ⟨_, e, rfl, rfl⟩⟩
  | false => exact ⟨_, begins_list a items, fun h it e => ⟨_, e, rfl, rfl⟩⟩
theorem IsB.lt {b : Bool} {h : Heap} {a : Addr} {items : Array Value} (x : IsB b h a items) : a < h.objs.size := by
  cases b with
  | true => obtain ⟨_, e, _⟩ := (show h.IsTuple a items from x); exact Heap.lt_size e
  | false => obtain ⟨_, e, _⟩ := (show h.IsList a items from x); exact Heap.lt_size e
theorem pi_zipB {X : Cx} {e e2 : Expr} {ta : TA} {p pos tpos : Pos} {elts : List Expr} {kk : Nat} (hg : Gl X "zip") (hm : X.mg "zip" = none) (ha : PA X [e, e2] ta)
    (hs : starEach [e, e2] X.env = (false, eval e X.env) :: starEach [e2] X.env := by rfl) (hpl : (backTo pos (starEach [e2] X.env)).any (·.1) = false := by rfl) :
    PI X (.Tuple elts kk tpos) (.Call (.Name "zip" p) [e, e2] [] pos) (iZipB X.K ta) := by
  refine ⟨fun pins s σ H R I h => ?_⟩
  refine Call_ (ld_blt I hg hm PyProof.Rows.boot_zip (PyProof.Rows.callWith_type1 (thn (ha.run pos pins s σ H _ I h) fun us s1 ⟨vs, H1, I1, r1, q1⟩ => ?_) hs hpl))
  obtain ⟨a, b, b1, b2, xs, ys, ex, hqx, hqy, q⟩ := q1
  subst ex
  obtain ⟨u1, u2, rfl, e1, e2⟩ : ∃ u1 u2, us = [u1, u2] ∧ u1 = Value.ref a ∧ u2 = Value.ref b := by
    cases r1 with
    | cons r rr =>
      cases rr with
      | cons r' rr => cases rr; exact ⟨_, _, rfl, r, r'⟩
  subst e1 e2
  obtain ⟨its, rv, p1⟩ := sqB_at I1 hqx
  obtain ⟨its2, rv2, p2⟩ := sqB_at I1 hqy
  obtain ⟨o1, B1, g1⟩ := begins_b b1 a its.toArray
  obtain ⟨o2, B2, g2⟩ := begins_b b2 b its2.toArray
  have l1 := p1.lt
  have l2 := p2.lt
  generalize hn : s1.heap.objs.size = n at l1 l2
  refine zip_begins2 B1 B2 p1 p2 fun h' hz hTI hTO j1 j2 hsz hk => wpAny_pyIter_zip hz ?_
  rw [hn] at hz hTI hTO j1 j2 hsz ⊢
  have I2 : Inv X pins σ H1 { s1 with heap := h' } := I1.kept (t' := s1.toks) hk
  have fresh5 : ∀ c, c ∈ [n + 4, n + 2, n + 3, n, n + 1] → FpOk X pins H1 c := fun c hcm => by
    have hle : s1.heap.objs.size ≤ c := by
      rw [hn]
      have e' : c = n + 4 ∨ c = n + 2 ∨ c = n + 3 ∨ c = n ∨ c = n + 1 := by simpa using hcm
      omega
    exact I1.fpOk hle (I1.hok.fresh hle)
  have ne : ∀ m, m < n → ∀ c ∈ [n + 4, n + 2, n + 3, n, n + 1], c ≠ m := fun m hm c hc => by
    have e' : c = n + 4 ∨ c = n + 2 ∨ c = n + 3 ∨ c = n ∨ c = n + 1 := by simpa using hc
    omega
  exact ⟨n + 4, [n + 4, n + 2, n + 3, n, n + 1], _, _, H1, rfl, I2, turn_zipB (b1 := b1) (b2 := b2) (by simp) (ne a l1) (ne b l2), ⟨hz, hTI, ⟨_, _, hTO⟩, g1 _ _ j1, g2 _ _ j2⟩, fresh5, q⟩
theorem seqF {K : PySem.W.Frag} {F : Hp} {v : V} {d : D} {ds : List D} (r : Rep F v d) (e : itemsD d = some ds) : ∃ b p vs, v = .ref p ∧ RepAll F vs ds ∧ ∀ H, Sub F H → SqB b K H p vs := by
  cases d with
  | list ys =>
    cases e
    cases r with
    | lst h1 h2 => exact ⟨false, _, _, rfl, h2, fun H s => SqL.of (s _ _ h1)⟩
  | tuple ys =>
    cases e
    cases r with
    | tup h1 h2 => exact ⟨true, _, _, rfl, h2, fun H s => SqT.of (s _ _ h1)⟩
  | _ => cases e
theorem src_zipB {K : PySem.W.Frag} {F : Hp} {a b : Addr} {b1 b2 : Bool} {us vs : List V} {xs ys : List D} (h1 : ∀ H, Sub F H → SqB b1 K H a us) (h2 : ∀ H, Sub F H → SqB b2 K H b vs) (r1 : RepAll F us xs) (r2 : RepAll F vs ys) : SrcOk (ItzB b1 b2 K a b) F (zipD xs ys) where
  go := fun i H s hi => by
    have l1 := r1.length
    have l2 := r2.length
    unfold zipD at hi
    rw [List.length_zipWith] at hi
    exact ⟨us, vs, us[i]'(by omega), vs[i]'(by omega), h1 H s, h2 H s, by simp, by simp⟩
  stop := fun i H s hi => by
    have l1 := r1.length
    have l2 := r2.length
    unfold zipD at hi
    rw [List.length_zipWith] at hi
    exact ⟨us, vs, h1 H s, h2 H s, by omega⟩
  yld := fun i H v H' F1 s1 s2 y d hd => by
    obtain ⟨T, x, z, rfl, hT, rfl, y1, y2⟩ := y
    have f1 := y1 us (h1 H (s1.trans s2))
    have f2 := y2 vs (h2 H (s1.trans s2))
    obtain ⟨d1, g1, q1⟩ := r1.get f1
    obtain ⟨d2, g2, q2⟩ := r2.get f2
    have ed : d = .tuple [d1, d2] := by
      unfold zipD at hd
      rw [List.getElem?_zipWith, g1, g2] at hd
      cases hd; rfl
    subst ed
    have sb : Sub F1 (upd F1 T (.tup [x, z])) := Sub.put (s2.gone hT)
    exact .inr ⟨T, _, hT, rfl, .tup upd_same (.cons ((q1.mono s1).mono sb) (.cons ((q2.mono s1).mono sb) .nil))⟩
def wiZip (wa : WA) : WI := fun a K B => wa a (fun rs a1 => ∃ d e xs ys, rs = [.d d, .d e] ∧ itemsD d = some xs ∧ itemsD e = some ys ∧ K (zipD xs ys) a1) B
theorem di_zip {X : Cx} {E : XK} {e e2 : Expr} {ta : TA} {wa : WA} {p pos tpos : Pos} {elts : List Expr} {kk : Nat} (hg : Gl X "zip") (hm : X.mg "zip" = none) (ha : DA X E [e, e2] ta wa)
    (hs : starEach [e, e2] X.env = (false, eval e X.env) :: starEach [e2] X.env := by rfl) (hpl : (backTo pos (starEach [e2] X.env)).any (·.1) = false := by rfl) :
    DI X E (.Tuple elts kk tpos) (.Call (.Name "zip" p) [e, e2] [] pos) (iZipB X.K ta) (wiZip wa) := ⟨pi_zipB hg hm ha.pa hs hpl, by
  intro a K B k σ F H fps x R q b
  refine ha.so a _ B k σ F H fps x _ (fun rs a1 vs F1 H1 ⟨d, e', xs, ys, er, e1, e2, k1⟩ n1 x1 l1 o1 w1 => ?_) b
  subst er
  obtain ⟨v1, v2, rfl, o1, o2⟩ := vals_two o1
  obtain ⟨b1, p1, us, rfl, r1, g1⟩ := seqF (K := X.K) (show Rep F1 v1 d from o1) e1
  obtain ⟨b2, p2, ws, rfl, r2, g2⟩ := seqF (K := X.K) (show Rep F1 v2 e' from o2) e2
  exact ⟨p1, p2, b1, b2, us, ws, rfl, g1 H1 x1.sub, g2 H1 x1.sub, q _ a1 F1 H1 _ k1 n1 x1 l1 (src_zipB g1 g2 r1 r2)⟩⟩
def dd2 : List Ev → Option (List D × List D)
  | [.d (.tuple x), .d (.tuple y)] => some (x, y)
  | [.d (.tuple x), .d (.list y)] => some (x, y)
  | [.d (.list x), .d (.tuple y)] => some (x, y)
  | [.d (.list x), .d (.list y)] => some (x, y)
  | _ => none
theorem dd2_tt {x y : List D} : dd2 [.d (.tuple x), .d (.tuple y)] = some (x, y) := rfl
theorem dd2_tl {x y : List D} : dd2 [.d (.tuple x), .d (.list y)] = some (x, y) := rfl
theorem dd2_lt {x y : List D} : dd2 [.d (.list x), .d (.tuple y)] = some (x, y) := rfl
theorem dd2_ll {x y : List D} : dd2 [.d (.list x), .d (.list y)] = some (x, y) := rfl
theorem u_zipI {wa : WA} {a : AS} {K : List D → AS → Prop} {B : XD → AS → Prop} : wiZip wa a K B = wa a (fun rs a1 => so (dd2 rs) fun z => K (zipD z.1 z.2) a1) B := by
  unfold wiZip
  congr 1; funext rs a1
  refine propext ⟨fun ⟨d, e, xs, ys, er, e1, e2, k⟩ => ?_, fun k => ?_⟩
  · subst er
    cases d <;> first | cases e1 | skip
    all_goals (cases e <;> first | cases e2 | skip)
    all_goals exact k
  · obtain ⟨z, e, k⟩ := so_e k
    unfold dd2 at e
    split at e
    · cases e; exact ⟨_, _, _, _, rfl, rfl, rfl, k⟩
    · cases e; exact ⟨_, _, _, _, rfl, rfl, rfl, k⟩
    · cases e; exact ⟨_, _, _, _, rfl, rfl, rfl, k⟩
    · cases e; exact ⟨_, _, _, _, rfl, rfl, rfl, k⟩
    · cases e
end DL
namespace DL
open PySem PySem.Spec PyProof.Rows L2
abbrev bornS (w : World) : Obj := { cls := .type "set", dict := none, data := .set #[] 0 (.fresh 0 0 (!w.params.followText "set-order")) }
abbrev listIt (l : Addr) : Obj := { cls := .type "list_iterator", data := .fields #[.ref l, .int 0 0] }
section
variable {P : Program} {w : World} {A : Around} {E : Value → Shared → Prop} {s : Shared}
theorem set_fill {l : Addr} {items : Array Value} (ns : List Int) (hh : A.handled = none) (hl : s.heap.IsList l items) (hit : IntsAre items.toList ns) (hb : ns.length + 1 < scanBound) {Q : Value → Shared → Prop}
    (q : ∀ (h' : Heap) (tk c : Nat), SetR w h' s.heap.objs.size (fun j => decide (j ∈ ns)) c → c ≤ ns.length → (∀ b o, s.heap.get? b = some o → h'.get? b = some o) → Q .none { s with heap := h', toks := tk }) :
    codeAny (model P w) A (.builtin "set.update.loop" ⟨[.ref s.heap.objs.size, .ref (s.heap.objs.size + 1)], []⟩) (wants Q E) { s with heap := (s.heap.push (bornS w)).push (listIt l) } := by
  have n1 : items.size = ns.length := by
    have z := IntsAre.length hit
    rwa [Array.length_toList] at z
  obtain ⟨ol, el, _⟩ := hl
  have ll : l < s.heap.objs.size := Heap.lt_size el
  have hl : s.heap.IsList l items := ⟨ol, el, ‹_›⟩
  have hval : ∀ (i : Nat) (v : Value), items[i]? = some v → ∃ k t, ns[i]? = some k ∧ v = .int k t := fun i v hv => by
    have hi : i < ns.length := n1 ▸ (Array.getElem?_eq_some_iff.mp hv).1
    obtain ⟨t, e⟩ := IntsAre.int_at hit i v (by rwa [Array.getElem?_toList])
    exact ⟨ns[i], t, List.getElem?_eq_getElem hi, by rw [e]; congr 1; rw [List.getD_eq_getElem?_getD, List.getElem?_eq_getElem hi]; rfl⟩
  have z1 : (s.heap.push (bornS w)).objs.size = s.heap.objs.size + 1 := Heap.size_push ..
  have gI : ((s.heap.push (bornS w)).push (listIt l)).get? (s.heap.objs.size + 1) = some (listIt l) := by
    have := Heap.get?_push_size (s.heap.push (bornS w)) (o := listIt l) rfl
    rwa [z1] at this
  have gS : ((s.heap.push (bornS w)).push (listIt l)).get? s.heap.objs.size = some (bornS w) := Heap.get?_push_of_some _ (Heap.get?_push_size _ rfl)
  refine set_update_ints ((Walks.list (A := A.in1) (by simpa using hh) (s.heap.objs.size + 1) l (Nat.ne_of_lt (Nat.lt_succ_of_lt ll)) items).toS) s.heap.objs.size (fun hm => by
      simp only [List.mem_cons, List.not_mem_nil, or_false] at hm
      exact hm.elim (Nat.ne_of_lt (Nat.lt_succ_self _)) (Nat.ne_of_gt ll)) ns n1 hb hval (items.size - 0) 0 _ (by omega) (Nat.zero_le _)
    ⟨⟨_, gI, rfl, rfl⟩, ((hl.push _).push _)⟩ ⟨0, Nat.le_refl 0, setR_new_at gS⟩ fun s' c hm hc hS => ?_
  obtain ⟨h', g2, d2, tk2, os2⟩ := s'
  have e1 : g2 = s.gens := hm.gens
  have e2 : d2 = s.drawn := hm.drawn
  have e3 : os2 = s.os := hm.os
  subst e1 e2 e3
  refine q h' tk2 c hS (by omega) fun b o e => ?_
  have lb : b < s.heap.objs.size := Heap.lt_size e
  exact hm.heap b o (fun hz => by
    simp only [List.mem_cons, List.not_mem_nil, or_false] at hz
    exact hz.elim (Nat.ne_of_lt lb) (Nat.ne_of_lt (Nat.lt_succ_of_lt lb))) (Heap.get?_push_of_some _ (Heap.get?_push_of_some _ e))
theorem call_setL {l : Addr} {items : Array Value} (ns : List Int) (hh : A.handled = none) (hl : s.heap.IsList l items) (hit : IntsAre items.toList ns) (hb : ns.length + 1 < scanBound) {Q : Value → Shared → Prop}
    (q : ∀ (h' : Heap) (tk c : Nat), SetR w h' s.heap.objs.size (fun j => decide (j ∈ ns)) c → c ≤ ns.length → (∀ b o, s.heap.get? b = some o → h'.get? b = some o) → Q (.ref s.heap.objs.size) { s with heap := h', toks := tk }) :
    wpAny (model P w) A (call (.type "set") [.ref l]) Q E s := by
  have g0 := F.called_set
  obtain ⟨c, tl, g1⟩ := g0.mro
  have g2 := g0.made
  have g3 := g0.sub
  refine wpAny_call (codeAny_of_tree (show wpAny _ _ (callAny (.type "set") _) _ _ _ from ?_))
  refine wpAny_pure ⟨Code.quiet_builtin _ (by decide +kernel), codeAny_builtin F.entry_type_call ?_⟩; rw [Around.under_plain (weight_type_call_type "set" [.ref l] []) rfl]
  have g4 := g0.notType
  have g5 := g0.canCreate
  have g6 := F.typeCall_set_1 (.ref l)
  repeat (any_goals (first | wp_step | assumption))
  refine codeAny_mono (code_set_led1 (.ref l) (E := E) (Q₁ := fun b s1 => b = .ref s.heap.objs.size ∧ s1 = { s with heap := s.heap.push (bornS w) }) ⟨rfl, rfl⟩) fun r s1 hr => ?_
  rcases r with e | (b | _ | _ | _)
  · exact hr
  all_goals try exact hr.elim
  obtain ⟨rfl, rfl⟩ := hr
  have gS : (s.heap.push (bornS w)).get? s.heap.objs.size = some (bornS w) := Heap.get?_push_size _ rfl
  have tS : Shared.TypeIs { s with heap := s.heap.push (bornS w) } (.ref s.heap.objs.size) "set" := ⟨_, gS, rfl⟩
  have g7 := g0.init.lookup
  have g8 := g0.init.bind (.ref s.heap.objs.size)
  repeat (any_goals (first | wp_step | assumption))
  refine codeAny_mono (codeAny_call_builtin (R := wants (fun r s2 => r = .none ∧ ∃ h' tk c, s2 = { s with heap := h', toks := tk } ∧ SetR w h' s.heap.objs.size (fun j => decide (j ∈ ns)) c ∧ c ≤ ns.length ∧ ∀ b o, s.heap.get? b = some o → h'.get? b = some o) E)
    g0.init.plain F.entry_set_init (check_set_init_1 tS ?_)) fun r2 s2 hr2 => ?_
  · have hl0 := hl
    obtain ⟨⟨oc, od, oo, os⟩, hol, hc, nl, hdl⟩ := hl
    dsimp only at hc hdl
    subst hc hdl
    have z1 : (s.heap.push (bornS w)).objs.size = s.heap.objs.size + 1 := Heap.size_push ..
    have gl : (s.heap.push (bornS w)).get? l = some _ := Heap.get?_push_of_some _ hol
    have g9 := F.sub_list_set
    have g10 := F.sub_list_frozenset
    have g11 : (Value.type "list" == Value.type "dict") = false := by decide
    have gL : (s.heap.push (bornS w)).IsList l items := ⟨_, gl, rfl, nl, rfl⟩
    unfold Builtin.«set.__init__» noKeywords Builtin.Frozenset.updateFrom
    generalize hP : pyIter = PI
    wp_walk
    subst hP
    refine wpAny_pyIter_list gL (wpAny_bind (wpAny_runValue ?_))
    rw [z1]
    refine codeAny_mono (set_fill (A := A.in1.in1) (E := E) (Q := fun r s2 => r = .none ∧ ∃ h' tk c, s2 = { s with heap := h', toks := tk } ∧ SetR w h' s.heap.objs.size (fun j => decide (j ∈ ns)) c ∧ c ≤ ns.length ∧ ∀ b o, s.heap.get? b = some o → h'.get? b = some o) ns (by simpa using hh) hl0 hit hb fun h' tk c a1 a2 a3 => ⟨rfl, h', tk, c, rfl, a1, a2, a3⟩) fun r3 s3 h3 => ?_
    rcases r3 with e | (b | _ | _ | _)
    · exact h3
    all_goals try exact h3.elim
    obtain ⟨e0, hx⟩ := h3
    exact wpAny_pure (wpAny_pure ⟨rfl, hx⟩)
  · rcases r2 with e | (b | _ | _ | _)
    · exact hr2
    all_goals try exact hr2.elim
    obtain ⟨rfl, h', tk, c', rfl, a1, a2, a3⟩ := hr2
    repeat (any_goals (first | wp_step | assumption))
    exact q _ _ _ a1 a2 a3
end
def asc (ns : List Int) : List Int := sortI false (ns.foldl step_dedup [])
theorem mem_asc {ns : List Int} {x : Int} : x ∈ asc ns ↔ x ∈ ns := by
  unfold asc
  rw [(sortI_perm false _).mem_iff, fold_mem]
  simp
theorem lt_asc (ns : List Int) : (asc ns).Pairwise (· < ·) := by
  have h1 : (asc ns).Nodup := (sortI_perm false _).nodup_iff.mpr (fold_nodup ns [] List.nodup_nil)
  refine ((List.Pairwise.and h1 (sortI_pw false (ns.foldl step_dedup [])))).imp fun {x y} z => ?_
  have h3 := z.2
  simp [leB] at h3
  have := z.1
  omega
theorem rising_eq {xs ys : List Int} (p1 : xs.Pairwise (· < ·)) (p2 : ys.Pairwise (· < ·)) (h : ∀ x, x ∈ xs ↔ x ∈ ys) : xs = ys := by
  have n1 : xs.Nodup := p1.imp fun {a b} z => by omega
  have n2 : ys.Nodup := p2.imp fun {a b} z => by omega
  exact ((List.perm_ext_iff_of_nodup n1 n2).mpr h).eq_of_pairwise (fun a b _ _ z y => by omega) p1 p2
theorem asc_len (ns : List Int) : (asc ns).length = distinct ns := by
  unfold asc distinct
  exact (sortI_perm false _).length_eq
section
variable {X : Cx} {E : XK} {e : Expr} {te : TE} {we : WE} {p p2 q pos : Pos}
theorem sorted_setD {pins : List (Addr × Obj)} {σ : Sgm} {H : Hp} {s : Shared} {Q : VK} {D : Addr} {ns : List Int} {c : Nat} (hc : X.calm = true) (I : Inv X pins σ H s) (R : SetR X.w s.heap D (fun j => decide (j ∈ ns)) c) (h64 : c < 64)
    (q : ∀ a, H a = none → Q (.ref a) (upd H a (.lst ((asc ns).map V.int)))) :
    wpAny (model X.prog X.w) X.A (call (.builtin "sorted") [.ref D]) (fun v s' => ∃ x H', Inv X pins σ H' s' ∧ RelV x v ∧ Q x H') X.xe s := by
  refine sorted_set R (I.ok.hd hc) h64 fun s' a out c' ms k g o ha hg' hi hs hmem hlen => ?_
  have em : ms = asc ns := rising_eq hs (lt_asc ns) fun x => by rw [hmem, mem_asc]; exact decide_eq_true_iff
  subst em
  have hz : ((asc ns).map V.int).length ≤ sizeLine := by rw [List.length_map, hlen, sizeLine_eq]; omega
  have hn : H a = none := I.hok.fresh ha
  have J : Inv X pins σ (upd H a (.lst ((asc ns).map V.int))) { s with heap := s'.heap, gens := s'.gens, drawn := s'.drawn, toks := s'.toks } :=
    I.call (ch := []) (Un.laid k ha hn) (I.hok.laid k ha ⟨hz, out.toList, c', vals_of_ints hi, hg'⟩) (by rw [g]; exact I.bare) (fun _ z => nomatch z)
  have e : s' = { s with heap := s'.heap, gens := s'.gens, drawn := s'.drawn, toks := s'.toks } := by
    cases s'; cases s; cases o; rfl
  rw [e]; exact ⟨.ref a, _, J, rfl, q a hn⟩
def tSortSet (K : PySem.W.Frag) (te : TE) : TE := fun σ H Q => te σ H fun x H1 => ∃ (l : Addr) (ns : List Int), x = .ref l ∧ (SqL K H1 l (ns.map V.int) ∨ SqT K H1 l (ns.map V.int)) ∧ ns.length < 64 ∧ ∀ a, H1 a = none → Q (.ref a) (upd H1 a (.lst ((asc ns).map V.int)))
theorem pe_sortSet (hc : X.calm = true) (hg : Gl X "sorted") (hm : X.mg "sorted" = none) (hg2 : Gl X "set") (hm2 : X.mg "set" = none) (he : PE X e te) (na : starEach [e] X.env = (false, eval e X.env) :: starEach [] X.env := by rfl) :
    PE X (.Call (.Name "sorted" p) [.Call (.Name "set" p2) [e] [] q] [] pos) (tSortSet X.K te) := by
  refine ⟨fun pins s σ H Q I h => Call_ (ld_blt I hg hm boot_sorted ?_)⟩
  refine callWith_builtin1 (args_cons (Call_ (ld_blt I hg2 hm2 boot_set ?_)) rfl) rfl rfl
  refine callWith_type1 (args_cons (thn (he.run pins s σ H _ I h) fun v s1 ⟨x, H1, I1, r1, l, ns, ex, hq, hl, q1⟩ => args_nil ?_) na) na rfl
  subst ex
  cases r1
  have room : ns.length + 1 < scanBound := by unfold scanBound; omega
  have fin : ∀ (h' : Heap) (tk c : Nat), SetR X.w h' s1.heap.objs.size (fun j => decide (j ∈ ns)) c → c ≤ ns.length → (∀ b o, s1.heap.get? b = some o → h'.get? b = some o) →
      wpAny (model X.prog X.w) X.A (call (.builtin "sorted") [.ref s1.heap.objs.size]) (fun v s' => ∃ x H', Inv X pins σ H' s' ∧ RelV x v ∧ Q x H') X.xe { s1 with heap := h', toks := tk } :=
    fun h' tk c R hcl hk => sorted_setD hc (I1.kept hk) R (by omega) q1
  rcases hq with hq | hq
  · obtain ⟨its, r, pl, hz⟩ := I1.list hq
    exact call_setL ns (I1.ok.hd hc) pl.isList (by simpa using RZ.intsAre_vals r) room fun h' tk c hS hcl hk => args_nil (fin h' tk c hS hcl hk)
  · obtain ⟨its, r, pl, hz⟩ := I1.tuple hq
    exact call_set_tupI ns (I1.ok.hd hc) pl (by simpa using RZ.intsAre_vals r) room fun h' tk c hS hcl hk => args_nil (fin h' tk c hS hcl hk)
def wSortSet (we : WE) : WE := fun a K B => we a (fun r a1 => ∃ d ds ns, vw a1 r = some d ∧ itemsD d = some ds ∧ intsD ds = some ns ∧ ns.length < 64 ∧ K (.nl ((asc ns).map PyData.int)) a1) B
theorem de_sortSet (hc : X.calm = true) (hg : Gl X "sorted") (hm : X.mg "sorted" = none) (hg2 : Gl X "set") (hm2 : X.mg "set" = none) (he : DE X E e te we) (na : starEach [e] X.env = (false, eval e X.env) :: starEach [] X.env := by rfl) :
    DE X E (.Call (.Name "sorted" p) [.Call (.Name "set" p2) [e] [] q] [] pos) (tSortSet X.K te) (wSortSet we) := ⟨pe_sortSet hc hg hm hg2 hm2 he.pe na, by
  intro a K B k σ F H fps x Q q b
  refine he.so a _ B k σ F H fps x _ (fun r a1 v F1 H1 ⟨d, ds, ns, e1, e2, e3, hl, k1⟩ n1 x1 l1 o1 w1 => ?_) b
  obtain ⟨l, vs, rfl, hp, rp⟩ := vw_items x1 o1 e1 e2
  have ev : vs = ns.map V.int := by
    rw [intsD_eq e3] at rp
    exact RepAll.of_ints rp
  subst ev
  refine ⟨l, ns, rfl, hp.elim (fun z => .inl (SqL.of z)) fun z => .inr (SqT.of z), hl, fun p hpn => ?_⟩
  exact q (.nl _) a1 (.ref p) F1 (upd H1 p (.lst ((asc ns).map V.int))) k1 n1 (x1.newH hpn) (l1.trans (Le.newH hpn)) ⟨p, _, rfl, upd_same, x1.sub.gone hpn, x1.fresh hpn, RepAll.ints _⟩ fun p' e' => by cases e'; exact l1.ex _ hpn⟩
end
theorem u_sortSet {we : WE} {a : AS} {K : Ev → AS → Prop} {B : XD → AS → Prop} : wSortSet we a K B = we a (fun r a1 => so (intsO (seD (vw a1 r))) fun ns => side (ns.length < 64) (K (.nl ((asc ns).map PyData.int)) a1)) B := by
  unfold wSortSet
  congr 1; funext r a1
  refine propext ⟨fun ⟨d, ds, ns, e, i, j, h, k⟩ => ?_, fun k => ?_⟩
  · have e2 : seD (vw a1 r) = some ds := by
      rw [e]
      cases d with
      | list x => exact i
      | tuple x => exact i
      | _ => cases i
    rw [e2, show intsO (some ds) = some ns from j]
    exact ⟨h, k⟩
  · obtain ⟨ns, e, k⟩ := so_e k
    cases e2 : seD (vw a1 r) with
    | none => rw [e2] at e; cases e
    | some ds =>
      rw [e2] at e
      match h : vw a1 r, e2 with
      | some (.list b), e2 => cases e2; exact ⟨_, _, ns, rfl, rfl, e, k⟩
      | some (.tuple b), e2 => cases e2; exact ⟨_, _, ns, rfl, rfl, e, k⟩
end DL
namespace DL
open PySem PySem.Spec PyProof.Rows L2
section
variable {X : Cx}
def rReprA : List V → Hp → VK → Prop := fun xs H Q => ∃ x d, xs = [x] ∧ Rep H x d ∧ d.showable = true ∧ d.hasDict = false ∧ d.depth ≤ 150 ∧ d.shown.length ≤ 100000 ∧ Q (.str d.shown) H
def gReprA : GC := fun a xs K => ∃ x d, xs = [x] ∧ vw a x = some d ∧ CanShow d ∧ K (.d (.str d.shown))
theorem d_reprA (hu : X.A.units + 200 < cLine) (hgd : X.A.guards = some []) : CallR X (.builtin "repr") rReprA ∧ RCS rReprA gReprA := ⟨by
  intro pins s σ H xs us Q I r h
  obtain ⟨x, d, rfl, rp, h1, h2, h3, h4, q⟩ := h
  obtain ⟨v, rfl, rv⟩ := vals1 r
  cases hx : x with
  | ref p =>
    subst hx
    cases rv
    obtain ⟨as, ra⟩ := reads_of I (x := .ref p) (v := .ref p) rfl rp
    exact repr_of_reads' ra h1 (fun h' => absurd (h2.symm.trans h') Bool.false_ne_true) hgd (by omega) (fun _ _ e => e) (fun h' u tk hk => ⟨.str _, H, I.kept (t' := tk) hk, ⟨u, rfl⟩, q⟩) (by rw [sizeLine_eq]; omega)
  | non =>
    subst hx
    cases rp; cases rv
    exact PySem.P.repr_of_none ⟨.str _, H, I.tok _, ⟨_, rfl⟩, q⟩
  | bl b =>
    subst hx
    cases rp; cases rv
    exact PySem.P.repr_of_bool ⟨.str _, H, I.tok _, ⟨_, rfl⟩, q⟩
  | int i =>
    subst hx
    cases rp; obtain ⟨t, rfl⟩ := rv
    exact PySem.P.repr_of_int (by simpa [PyData.showable] using h1) ⟨.str _, H, I.tok _, ⟨_, rfl⟩, q⟩
  | str y =>
    subst hx
    cases rp; obtain ⟨t, rfl⟩ := rv
    exact PySem.P.repr_of_str ⟨.str _, H, I.tok _, ⟨_, rfl⟩, q⟩ (by rw [sizeLine_eq]; have : (PyData.shown (.str y)).length ≤ 100000 := h4; exact Nat.le_trans this (by decide))
  | _ => subst hx; exact (nomatch rp), by
  intro a σ F H fps xs vs ok hv Kz k Q q
  obtain ⟨x, d, rfl, e, ⟨h1, h2, h3, h4⟩, k⟩ := k
  obtain ⟨v, rfl, h⟩ := vals_one hv
  exact ⟨v, d, rfl, vw_rep ok h e, h1, h2, h3, h4, q _ _ F H k ok (Le.refl _ _ _) (.str _) trivial⟩⟩
end
theorem u_reprA {a : AS} {x : Ev} {K : Ev → Prop} : gReprA a [x] K = so (vw a x) fun d => side (CanShow d) (K (.d (.str d.shown))) := by
  unfold gReprA
  refine propext ⟨fun ⟨x', d, e, h1, h2, k⟩ => ?_, fun h => ?_⟩
  · cases e; rw [h1]; exact ⟨h2, k⟩
  · obtain ⟨d, e, h2, k⟩ := so_e h
    exact ⟨x, d, rfl, e, h2, k⟩
theorem show_int {i : Int} (h1 : -999999999999 ≤ i) (h2 : i ≤ 999999999999) : CanShow (.int i) := (Sh.int h1 h2).can (by omega) (by omega)
theorem show_bool (b : Bool) : CanShow (.bool b) := (Sh.bool b).can (by omega) (by omega)
theorem show_none : CanShow .none := Sh.none.can (by omega) (by omega)
theorem shown_i {i : Int} : (PyData.int i).shown = toString i := rfl
end DL
namespace Pf
open PySem PySem.Spec PyProof.Rows L2 DL
def topS (i : Nat) : Stmt := PySem.Challenge.pw_pairpicks_k07_whole_swaps_are_plans.main.body.getD i (.Pass ⟨0, 0, 0, 0⟩)
structure Tc (mg : Str → Option Value) : Prop where
  c_LAST : ∃ t, mg "LAST" = some (.int 7 t)
abbrev s_law_draw : Stmt := topS 22
theorem sc_law_draw : FnScope ["state", "size_here", "turn", "cell", "mixed", "found"] ["state", "size_here"] (defScope s_law_draw) := ⟨rfl, rfl, rfl, by decide +kernel, rfl, by decide +kernel, by decide +kernel⟩
theorem NoSl.str {x j pos} : NoSl (.Constant (.str x) j pos) := fun _ _ => rfl
theorem ok_law_draw {P : Program} {w : World} {K : PySem.W.Frag} {mg : Str → Option Value} {base : Heap} {f : Addr} {fd : FuncData} (F : Fun K "_law_draw" "_law_draw" s_law_draw f fd) (B : Bl mg) : FnG P w K mg base false 2 f fd ["state", "size_here"] (spOf 2 ct_law_draw) := by
  refine FnG.weak (sp := spDraw) (fng_raw (k := 1) F sc_law_draw ?_ fun cdv A outer s H vs Q E hr hgd h => ?_) fun vs H Q E h => draw_ct h
  · rintro vs H Q E ⟨_, _, _, _, _, _, _, _, rfl, _⟩; rfl
  have hu := hu200 hr
  have hu1 : (A.deeper (envOfC "_law_draw" (defScope s_law_draw) s.heap.objs.size f cdv)).units + 1 < cLine := by omega
  refine ⟨_, (pss_cons (ps_while (passes_of rfl) (pw_and (pt_cmpR (d_eq hu).1 (pe_dget hu1 (pv 0) pe_str NoSl.str) pe_int (nomark _)) (pw_and1 (pt_cmpR (d_ne hu).1 (pe_dget hu1 (pv 0) pe_str NoSl.str) (pe_lst pa_nil) (nomark _)))).pt
    (pss_one (ps_dput hu1 (pv 0) pe_str (pe_bm PySem.F.plainAttrs_list PySem.F.slot_list_pop PySem.F.type_list_pop mt_popAt (pe_dget hu1 (pv 0) pe_str NoSl.str) (pa_cons pe_int pa_nil)) (by rfl))))
   (pss_cons (ps_if (pt_cmpR (d_gt hu).1 (pe_dget hu1 (pv 0) pe_str NoSl.str) pe_int (nomark _))
      (pss_cons (ps_set (i := 5) sc_law_draw.nd rfl (Or.inl rfl) (pe_op d_mod.1 (pe_callTy d_int.1 (by rfl) B.b_int (by decide +kernel) (pa_cons (pe_dget hu1 (pv 0) pe_str NoSl.str) pa_nil)) (pv 1)))
      (pss_cons (ps_dput hu1 (pv 0) pe_str (pe_op d_fdiv.1 (pe_dget hu1 (pv 0) pe_str NoSl.str) (pv 1)) (by rfl))
      (pss_one (ps_ret (pv 5))))) pss_nil)
   (pss_cons (ps_set (i := 2) sc_law_draw.nd rfl (Or.inl rfl) (pe_op d_add.1 (pe_dget hu1 (pv 0) pe_str NoSl.str) pe_int))
   (pss_cons (ps_dput hu1 (pv 0) pe_str (pv 2) (by rfl))
   (pss_cons (ps_set (i := 3) sc_law_draw.nd rfl (Or.inl rfl) (pe_ifExp (pt_cmpR (d_ne hu).1 (pe_dget hu1 (pv 0) pe_str NoSl.str) (pe_lst pa_nil) (nomark _))
      (pe_ix d_ix.1 (pe_dget hu1 (pv 0) pe_str NoSl.str) (pe_op d_mod.1 (pe_callTy d_int.1 (by rfl) B.b_int (by decide +kernel) (pa_cons (pv 2) pa_nil)) (pe_callB d_len.1 (by rfl) B.b_len (by decide +kernel) (pa_cons (pe_dget hu1 (pv 0) pe_str NoSl.str) pa_nil))) (fun _ _ => rfl)) pe_int))
   (pss_cons (ps_set (i := 4) sc_law_draw.nd rfl (Or.inl rfl) (pe_op d_mod.1 (pe_callTy d_int.1 (by rfl) B.b_int (by decide +kernel) (pa_cons (pe_op d_pow.1 (pe_op d_add.1 (pe_op d_add.1 (pe_op d_mod.1 (pe_callTy d_int.1 (by rfl) B.b_int (by decide +kernel) (pa_cons (pv 3) pa_nil)) pe_int) (pe_op d_mulI.1 pe_int (pv 2))) pe_int) pe_int) pa_nil)) pe_int))
   (pss_one (ps_ret (pe_op d_mod.1 (pe_callTy d_int.1 (by rfl) B.b_int (by decide +kernel) (pa_cons (pe_op d_fdiv.1 (pe_op d_mod.1 (pe_callTy d_int.1 (by rfl) B.b_int (by decide +kernel) (pa_cons (pe_op d_pow.1 (pe_op d_add.1 (pv 4) (pe_op d_mulI.1 pe_int (pv 2))) pe_int) pa_nil)) pe_int) pe_int) pa_nil)) (pv 1)))))))))), ?_⟩
  exact draw_read h
abbrev s_law_begun : Stmt := topS 21
theorem sc_law_begun : FnScope ["script", "cells_here", "large", "cell"] ["script"] (defScope s_law_begun) := ⟨rfl, rfl, rfl, by decide +kernel, rfl, by decide +kernel, by decide +kernel⟩
theorem ok_law_begun {P : Program} {w : World} {K : PySem.W.Frag} {mg : Str → Option Value} {base : Heap} {f : Addr} {fd : FuncData} (F : Fun K "_law_begun" "_law_begun" s_law_begun f fd) (B : Bl mg) : FnG P w K mg base false 2 f fd ["script"] (spBegun K) := by
  refine fng_raw (k := 1) F sc_law_begun ?_ fun cdv A outer s H vs Q E hr hgd h => ?_
  · rintro vs H Q E ⟨_, _, rfl, _⟩; rfl
  have hu := hu200 hr
  obtain ⟨ts1, st1, D1⟩ : ∃ ts1, ∃ st1 : Stmt, (defBody s_law_begun).head? = some st1 ∧ DS (cxD P w K mg base ["script", "cells_here", "large", "cell"] "_law_begun" (defScope s_law_begun) f cdv A outer s H E) E st1 ts1 (wBeg1 K) :=
    ⟨_, _, rfl, (ds_lc (i := 1) (ps_lcD (EC := L2.E0) (own := [("cell", 3)]) rfl sc_law_begun.nd rfl rfl (sw_true rfl rfl rfl (by decide +kernel)) (di_scr 0) (blkOk_by (by rfl)) (by decide) (fun _ _ _ _ _ => (dg_name (i := 3) sc_law_begun.nd rfl (by first | exact Or.inl rfl | exact Or.inr rfl))) (fun _ _ _ _ _ => dts_nil) (fun _ _ _ _ _ => (de_callB d_abs (by rfl) B.b_abs (by decide +kernel) (da_cons (dv 3) da_nil)))))⟩
  obtain ⟨ts2, st2, D2⟩ : ∃ ts2, ∃ st2 : Stmt, (defBody s_law_begun)[1]? = some st2 ∧ DS (cxD P w K mg base ["script", "cells_here", "large", "cell"] "_law_begun" (defScope s_law_begun) f cdv A outer s H E) E st2 ts2 wBeg2 :=
    ⟨_, _, rfl, (ds_lcO (i := 2) (ps_lcD (EC := L2.E0) (own := [("cell", 3)]) rfl sc_law_begun.nd rfl rfl (sw_true rfl rfl rfl (by decide +kernel)) (di_seq (dv 1)) (blkOk_by (by rfl)) (by decide) (fun _ _ _ _ _ => (dg_name (i := 3) sc_law_begun.nd rfl (by first | exact Or.inl rfl | exact Or.inr rfl))) (fun _ _ _ _ _ => (dts_one (dt_cmp (d_ge hu) (dv 3) (de_op d_pow de_int de_int) (nomark _)))) (fun _ _ _ _ _ => (de_op d_sub (dv 3) (de_op d_pow de_int de_int)))))⟩
  obtain ⟨e1, D1⟩ := D1
  obtain ⟨e2, D2⟩ := D2
  have D3 : ∃ st3, defBody s_law_begun = [st1, st2, st3] ∧ PS (cxD P w K mg base ["script", "cells_here", "large", "cell"] "_law_begun" (defScope s_law_begun) f cdv A outer s H E) st3 tBeg3 := by
    cases e1; cases e2
    exact ⟨_, rfl, ps_ret (pe_disp (pps_cons pe_str (pv 2) (pps_cons pe_str (pv 1) (pps_cons pe_str pe_int (pps_cons pe_str pe_int pps_nil)))) rfl rfl (fun z => by cases z) (by decide))⟩
  obtain ⟨st3, eb, D3⟩ := D3
  rw [eb]
  exact ⟨_, pss_cons D1.ps (pss_cons D2.ps (pss_one D3)), begun_reads D1.so D2.so h⟩
def isNum (d : D) : Bool := d.isInt && !d.isBool
def isFrom (d : D) (lo hi : Int) : Bool := match d with | .int i => decide (lo ≤ i) && decide (i ≤ hi) | _ => false
theorem isNum_int {d : D} (h : isNum d = true) : ∃ i, d = .int i := by
  cases d with
  | int i => exact ⟨i, rfl⟩
  | _ => simp [isNum, PyData.isInt, PyData.isBool] at h
theorem isNum_not {d : D} {lo hi : Int} (h : isNum d = false) : isFrom d lo hi = false := by
  cases d with
  | int i => simp [isNum, PyData.isInt, PyData.isBool] at h
  | _ => rfl
theorem isFrom_int {d : D} {lo hi : Int} (h : isFrom d lo hi = true) : ∃ i, d = .int i ∧ lo ≤ i ∧ i ≤ hi := by
  cases d with
  | int i => exact ⟨i, rfl, by simpa [isFrom] using h⟩
  | _ => cases h
def ct_is_number : Ct := fun args ow KQ KB => ∃ (d : D), args = [.d d] ∧ KQ (.d (.bool (isNum d))) ow
theorem e_is_number {ow : List Own} {KQ : Ev → List Own → Prop} {KB : XD → List Own → Prop} {d : D} : ct_is_number [.d d] ow KQ KB = (KQ (.d (.bool (isNum d))) ow) :=
  propext ⟨fun ⟨_, hX, kX⟩ => by cases hX; exact kX, fun kX => ⟨d, rfl, kX⟩⟩
def ct_is_from : Ct := fun args ow KQ KB => ∃ (d : D) (lo hi : Int), args = [.d d, .d (.int lo), .d (.int hi)] ∧ KQ (.d (.bool (isFrom d lo hi))) ow
theorem e_is_from {ow : List Own} {KQ : Ev → List Own → Prop} {KB : XD → List Own → Prop} {d : D} {lo hi : Int} : ct_is_from [.d d, .d (.int lo), .d (.int hi)] ow KQ KB = (KQ (.d (.bool (isFrom d lo hi))) ow) :=
  propext ⟨fun ⟨_, _, _, hX, kX⟩ => by cases hX; exact kX, fun kX => ⟨d, lo, hi, rfl, kX⟩⟩
def isPairD : D → Bool
  | .tuple [x, y] => isFrom x 0 7 && isFrom y 0 7
  | _ => false
theorem isPair_two (x y : D) : isPairD (.tuple [x, y]) = (isFrom x 0 7 && isFrom y 0 7) := rfl
theorem isPair_len {xs : List D} (h : xs.length ≠ 2) : isPairD (.tuple xs) = false := by
  unfold isPairD
  match xs, h with
  | [], _ => rfl
  | [_], _ => rfl
  | [_, _], z => simp at z
  | _ :: _ :: _ :: _, _ => rfl
theorem isPair_tup {d : D} (h : d.isTuple = false) : isPairD d = false := by
  cases d with
  | tuple xs => simp [PyData.isTuple] at h
  | _ => rfl
theorem tup_of {d : D} (h : d.isTuple = true) : ∃ xs, d = .tuple xs := by
  cases d with
  | tuple xs => exact ⟨xs, rfl⟩
  | _ => simp [PyData.isTuple] at h
theorem two_of {xs : List D} (h : xs.length = 2) : ∃ x y, xs = [x, y] := by
  match xs, h with
  | [x, y], _ => exact ⟨x, y, rfl⟩
theorem isPair_pD {d : D} (h : isPairD d = true) : ∃ p, d = DL.pD p := by
  unfold isPairD at h
  split at h
  · rw [Bool.and_eq_true] at h
    obtain ⟨i, rfl, _⟩ := isFrom_int h.1
    obtain ⟨j, rfl, _⟩ := isFrom_int h.2
    exact ⟨(i, j), rfl⟩
  · cases h
def ct_is_pair : Ct := fun args ow KQ KB => ∃ (d : D), args = [.d d] ∧ KQ (.d (.bool (isPairD d))) ow
theorem e_is_pair {ow : List Own} {KQ : Ev → List Own → Prop} {KB : XD → List Own → Prop} {d : D} : ct_is_pair [.d d] ow KQ KB = (KQ (.d (.bool (isPairD d))) ow) :=
  propext ⟨fun ⟨_, hX, kX⟩ => by cases hX; exact kX, fun kX => ⟨d, rfl, kX⟩⟩
def apart (ps : List (Int × Int)) : Bool := decide (distinct (ps.map (·.1)) = ps.length) && decide (distinct (ps.map (·.2)) = ps.length)
theorem natcast_dec (m n : Nat) : decide ((m : Int) = (n : Int)) = decide (m = n) := decide_eq_decide.mpr ⟨fun z => Int.ofNat.inj z, fun z => congrArg _ z⟩
def toP (d : D) : Int × Int := match d with | .tuple [.int a, .int b] => (a, b) | _ => (0, 0)
def isPlanD : D → Bool
  | .tuple xs => xs.all isPairD && apart (xs.map toP) && PyData.eqv (.list xs) (.list (sortD xs))
  | _ => false
theorem pairs_of {xs : List D} (h : xs.all isPairD = true) : ∃ ps : List (Int × Int), xs = ps.map DL.pD := by
  rw [List.all_eq_true] at h
  induction xs with
  | nil => exact ⟨[], rfl⟩
  | cons x xs ih =>
    obtain ⟨p, rfl⟩ := isPair_pD (h x (List.mem_cons_self ..))
    obtain ⟨ps, rfl⟩ := ih fun y hy => h y (List.mem_cons_of_mem _ hy)
    exact ⟨p :: ps, rfl⟩
theorem toP_pD (ps : List (Int × Int)) : (ps.map DL.pD).map toP = ps := by
  rw [List.map_map]
  conv => rhs; rw [← List.map_id ps]
  exact List.map_congr_left fun p _ => rfl
theorem plan_pairs {ps : List (Int × Int)} (h : (ps.map DL.pD).all isPairD = true) : isPlanD (.tuple (ps.map DL.pD)) = (apart ps && decide (ps = sortP ps)) := by
  show ((ps.map DL.pD).all isPairD && apart ((ps.map DL.pD).map toP) && PyData.eqv (.list _) (.list _)) = _
  rw [h, toP_pD, Bool.true_and, sortD_pD]
  congr 1
  exact eqvAll_pD _ _
theorem plan_tup {d : D} (h : d.isTuple = false) : isPlanD d = false := by
  cases d with
  | tuple xs => simp [PyData.isTuple] at h
  | _ => rfl
theorem plan_no {xs : List D} (h : xs.all isPairD = false) : isPlanD (.tuple xs) = false := by
  show (xs.all isPairD && _ && _) = false
  rw [h]; rfl
theorem alike_pairs (ps : List (Int × Int)) : PySem.W.AllAlike (ps.map DL.pD) := fun d hd d' hd' => by
  obtain ⟨p, _, rfl⟩ := List.mem_map.mp hd
  obtain ⟨q, _, rfl⟩ := List.mem_map.mp hd'
  rfl
theorem sort_pairs (ps : List (Int × Int)) : PySem.W.Sortable (ps.map DL.pD) := .inl fun d hd => by
  obtain ⟨p, _, rfl⟩ := List.mem_map.mp hd
  exact ⟨_, _, rfl⟩
theorem depth_pairs (ps : List (Int × Int)) : PyData.depthAll (ps.map DL.pD) ≤ 1 := by
  induction ps with
  | nil => exact Nat.zero_le _
  | cons p ps ih => exact Nat.max_le.mpr ⟨Nat.le_refl _, ih⟩
theorem plain_pairs (ps : List (Int × Int)) : PyData.plainAll (ps.map DL.pD) = true := by
  induction ps with
  | nil => rfl
  | cons p ps ih => rw [List.map_cons, plainAll_cons, ih]; rfl
theorem canSort_pairs {ps : List (Int × Int)} (h : ps.length ≤ 100000) : CanSort (ps.map DL.pD) := ⟨alike_pairs ps, sort_pairs ps, by simpa using h, Nat.le_trans (depth_pairs ps) (by decide)⟩
theorem canEq_pairs (ps qs : List (Int × Int)) : CanEq (.list (ps.map DL.pD)) (.list (qs.map DL.pD)) :=
  ⟨plain_pairs ps, plain_pairs qs, Nat.le_trans (Nat.min_le_left _ _) (Nat.le_trans (Nat.succ_le_succ (depth_pairs ps)) (by decide))⟩
theorem eqv_pairs (ps qs : List (Int × Int)) : PyData.eqv (.list (ps.map DL.pD)) (.list (qs.map DL.pD)) = decide (ps = qs) := eqvAll_pD ps qs
def SmallP (d : D) : Prop := ∀ xs, d = .tuple xs → xs.length ≤ 4000
def ct_are_apart : Ct := fun args ow KQ KB => ∃ (xs : List D), args = [.d (.tuple xs)] ∧ so (pairsO xs) fun ps => side (ps.length ≤ 4000) (KQ (.d (.bool (apart ps))) ow)
theorem e_are_apart {ow : List Own} {KQ : Ev → List Own → Prop} {KB : XD → List Own → Prop} {xs : List D} : ct_are_apart [.d (.tuple xs)] ow KQ KB = (so (pairsO xs) fun ps => side (ps.length ≤ 4000) (KQ (.d (.bool (apart ps))) ow)) :=
  propext ⟨fun ⟨_, hX, kX⟩ => by cases hX; exact kX, fun kX => ⟨xs, rfl, kX⟩⟩
def ct_is_plan : Ct := fun args ow KQ KB => ∃ (d : D), args = [.d d] ∧ side (SmallP d) (KQ (.d (.bool (isPlanD d))) ow)
theorem e_is_plan {ow : List Own} {KQ : Ev → List Own → Prop} {KB : XD → List Own → Prop} {d : D} : ct_is_plan [.d d] ow KQ KB = (side (SmallP d) (KQ (.d (.bool (isPlanD d))) ow)) :=
  propext ⟨fun ⟨_, hX, kX⟩ => by cases hX; exact kX, fun kX => ⟨d, rfl, kX⟩⟩
def lowI : D → Bool
  | .tuple [_, .int i] => decide (i < 2)
  | _ => false
def spotI : D → D
  | .tuple [s, _] => s
  | d => d
theorem enum2 (a b : D) : enumD [a, b] = [.tuple [.int 0, a], .tuple [.int 1, b]] := rfl
theorem r_spotI {s x : D} : spotI (.tuple [s, x]) = s := rfl
theorem r_cut0 {x y : D} : DL.cutD [x, y] none (some 0) = [] := rfl
theorem r_cut1 {x y : D} : DL.cutD [x, y] none (some 1) = [x] := rfl
theorem r_cutm {x y : D} : DL.cutD [x, y] none (some (-1)) = [x] := rfl
theorem r_cut2 {x y : D} : DL.cutD [x, y] (some 1) none = [y] := rfl
theorem r_cut3 {x y : D} : DL.cutD [x, y] (some 2) none = [] := rfl
theorem plainAll_iff {xs : List D} : PyData.plainAll xs = true ↔ ∀ x ∈ xs, PyData.plain x = true := by
  induction xs with
  | nil => exact ⟨fun _ x h => (by cases h), fun _ => rfl⟩
  | cons x xs ih => rw [plainAll_cons, Bool.and_eq_true, ih]; simp
theorem plainAll_ones (xs : List D) : PyData.plain (.list (xs.map fun _ => PyData.int 1)) = true := by
  rw [plain_l, plainAll_iff]
  intro x hx
  obtain ⟨_, _, rfl⟩ := List.mem_map.mp hx
  rfl
theorem eqv_cons_nil (f : D → D) (x : D) (xs : List D) : PyData.eqv (.list ((x :: xs).map f)) (.list []) = false := rfl
theorem filter_not_nil {xs : List D} {p : D → Bool} : xs.filter (fun x => !p x) = [] ↔ xs.all p = true := by
  rw [List.filter_eq_nil_iff, List.all_eq_true]; simp
theorem ones_eq (xs : List D) (p : D → Bool) : PyData.eqv (.list ((xs.filter fun x => !p x).map fun _ => PyData.int 1)) (.list []) = xs.all p := by
  cases h : xs.all p with
  | true => rw [filter_not_nil.mpr h]; rfl
  | false =>
    have hne : xs.filter (fun x => !p x) ≠ [] := fun z => by rw [filter_not_nil.mp z] at h; cases h
    obtain ⟨y, ys, hy⟩ := List.exists_cons_of_ne_nil hne
    rw [hy]; rfl
theorem ones_can (xs : List D) : CanEq (.list (xs.map fun _ => PyData.int 1)) (.list []) := ⟨plainAll_ones _, rfl, Nat.le_trans (Nat.min_le_right _ _) (by decide)⟩
structure Bk (b : List (List (Int × Int))) : Prop where
  ne : b ≠ []
  len : b.length ≤ 16
  pl : ∀ ps ∈ b, Pl 8 ps
theorem pl_zip {m : Nat} {as bs : List Int} (ha : as.Perm (ups m)) (hb : bs.Perm (ups m)) (n : Nat) :
    Pl m (sortP ((as.take n).zip (bs.take n))) ∧ (sortP ((as.take n).zip (bs.take n))).length = min n m := by
  have la : as.length = m := by rw [ha.length_eq, ups_len]
  have lb : bs.length = m := by rw [hb.length_eq, ups_len]
  have lt : (as.take n).length = (bs.take n).length := by simp [la, lb]
  have na : as.Nodup := ha.nodup_iff.mpr (ups_nodup m)
  have nb : bs.Nodup := hb.nodup_iff.mpr (ups_nodup m)
  refine ⟨Pl.of_sort (fun p hp => ?_) ?_ ?_, ?_⟩
  · have h := List.of_mem_zip hp
    have h1 := mem_ups.mp (ha.mem_iff.mp (List.mem_of_mem_take h.1))
    have h2 := mem_ups.mp (hb.mem_iff.mp (List.mem_of_mem_take h.2))
    omega
  · rw [show (fun x : Int × Int => x.1) = Prod.fst from rfl, List.map_fst_zip (by omega)]
    exact na.sublist (List.take_sublist _ _)
  · rw [show (fun x : Int × Int => x.2) = Prod.snd from rfl, List.map_snd_zip (by omega)]
    exact nb.sublist (List.take_sublist _ _)
  · rw [sortP_len, List.length_zip, List.length_take, List.length_take, la, lb]; omega
def isBookD : D → Bool
  | .tuple xs => decide (1 ≤ xs.length) && decide (xs.length ≤ 16) && xs.all isPlanD
  | _ => false
theorem book_tup {d : D} (h : d.isTuple = false) : isBookD d = false := by
  cases d with
  | tuple xs => simp [PyData.isTuple] at h
  | _ => rfl
theorem book_len {xs : List D} (h : ¬ (1 ≤ xs.length ∧ xs.length ≤ 16)) : isBookD (.tuple xs) = false := by
  show (decide (1 ≤ xs.length) && decide (xs.length ≤ 16) && xs.all isPlanD) = false
  by_cases h1 : 1 ≤ xs.length
  · rw [decide_eq_false (show ¬ xs.length ≤ 16 from fun z => h ⟨h1, z⟩), Bool.and_false, Bool.false_and]
  · rw [decide_eq_false h1]; rfl
theorem book_all {xs : List D} (h1 : 1 ≤ xs.length) (h2 : xs.length ≤ 16) : isBookD (.tuple xs) = xs.all isPlanD := by
  show (decide (1 ≤ xs.length) && decide (xs.length ≤ 16) && xs.all isPlanD) = _
  simp [h1, h2]
def SmallB (d : D) : Prop := ∀ xs, d = .tuple xs → xs.length ≤ 4000 ∧ ∀ x ∈ xs, SmallP x
theorem small_len {xs : List D} (h : xs.length ≤ 4000) : SmallP (.tuple xs) := fun ys e => by cases e; exact h
theorem small_tup {d : D} (h : d.isTuple = false) : SmallP d := fun ys e => by subst e; cases h
theorem smallB_tup {d : D} (h : d.isTuple = false) : SmallB d := fun ys e => by subst e; cases h
theorem smallB_of {xs : List D} (h : xs.length ≤ 4000) (k : ∀ x ∈ xs, SmallP x) : SmallB (.tuple xs) := fun ys e => by cases e; exact ⟨h, k⟩
theorem SmallB.p {d : D} (h : SmallB d) : SmallP d := fun xs e => (h xs e).1
theorem small_pD (p : Int × Int) : SmallP (DL.pD p) := small_len (by simp)
theorem small_pairs {ps : List (Int × Int)} (h : ps.length ≤ 4000) : SmallB (.tuple (ps.map DL.pD)) := smallB_of (by simpa using h) fun x hx => by
  obtain ⟨p, _, rfl⟩ := List.mem_map.mp hx
  exact small_pD p
theorem distinct_nodup (ns : List Int) : distinct ns = ns.length ↔ ns.Nodup := by
  unfold distinct
  have go : ∀ (ns acc : List Int), acc.Nodup → ((ns.foldl step_dedup acc).length = acc.length + ns.length ↔ (acc ++ ns).Nodup) ∧ (ns.foldl step_dedup acc).length ≤ acc.length + ns.length := by
    intro ns
    induction ns with
    | nil => intro acc h; simp [h]
    | cons n ns ih =>
      intro acc h
      have h2 := ih (step_dedup acc n) (dedup_nodup acc n h)
      rw [List.foldl_cons]
      by_cases hm : n ∈ acc
      · have e : step_dedup acc n = acc := by
          unfold step_dedup
          have : acc.any (· == n) = true := List.any_eq_true.mpr ⟨n, hm, by simp⟩
          first | rw [if_pos this] | simp [this] | (simp only [this]; rfl)
        rw [e] at h2 ⊢
        refine ⟨⟨fun z => ?_, fun z => ?_⟩, ?_⟩
        · simp only [List.length_cons] at z; omega
        · rw [List.nodup_append] at z
          exact absurd rfl (z.2.2 n hm n (List.mem_cons_self ..))
        · simp only [List.length_cons]; omega
      · have e : step_dedup acc n = acc ++ [n] := by
          unfold step_dedup
          have : acc.any (· == n) = false := by
            rw [List.any_eq_false]; intro x hx; simp; intro e; subst e; exact hm hx
          first | rw [if_neg (by rw [this]; exact Bool.false_ne_true)] | simp [this] | (simp only [this]; rfl)
        rw [e] at h2 ⊢
        have h3 := h2
        rw [List.append_assoc, List.length_append] at h3
        simp only [List.length_cons, List.length_nil, List.cons_append, List.nil_append] at h3 ⊢
        refine ⟨⟨fun z => h3.1.mp (by omega), fun z => ?_⟩, by omega⟩
        have := h3.1.mpr z; omega
  have := (go ns [] (by simp)).1
  simpa using this
theorem apart_iff (ps : List (Int × Int)) : apart ps = true ↔ (ps.map (·.1)).Nodup ∧ (ps.map (·.2)).Nodup := by
  unfold apart
  rw [Bool.and_eq_true, decide_eq_true_eq, decide_eq_true_eq, ← distinct_nodup, ← distinct_nodup, List.length_map, List.length_map]
theorem plan_apart {ps : List (Int × Int)} (h : isPlanD (.tuple (ps.map DL.pD)) = true) : (ps.map (·.1)).Nodup ∧ (ps.map (·.2)).Nodup ∧ ps = sortP ps := by
  have h' : ((ps.map DL.pD).all isPairD && apart ((ps.map DL.pD).map toP) && PyData.eqv (.list (ps.map DL.pD)) (.list (sortD (ps.map DL.pD)))) = true := h
  rw [Bool.and_eq_true, Bool.and_eq_true, toP_pD, apart_iff, sortD_pD, eqv_pairs, decide_eq_true_eq] at h'
  exact ⟨h'.1.2.1, h'.1.2.2, h'.2⟩
theorem no_plan {ps : List (Int × Int)} (h : ¬ ((ps.map (·.1)).Nodup ∧ (ps.map (·.2)).Nodup ∧ ps = sortP ps)) : isPlanD (.tuple (ps.map DL.pD)) = false := by
  cases e : isPlanD (.tuple (ps.map DL.pD)) with
  | false => rfl
  | true => exact absurd (plan_apart e) h
theorem bad_mid {xs ys : List D} {z : D} (h : isPairD z = false) : isPlanD (.tuple (xs ++ [z] ++ ys)) = false := by
  refine plan_no ?_
  rw [List.all_append, List.all_append, List.all_cons, h]; simp
theorem bad_rev {ps : List (Int × Int)} (h : Pl 8 ps) (h2 : 2 ≤ ps.length) : isPlanD (.tuple (ps.map DL.pD).reverse) = false := by
  rw [← List.map_reverse]
  refine no_plan fun z => ?_
  have e : sortP ps.reverse = ps := sortP_eq (List.reverse_perm ps) h.sorted
  rw [e] at z
  match ps, h2, h, z with
  | a :: b :: r, _, h, z =>
    have hl : (a :: b :: r).getLast (by simp) = a := by
      have e := z.2.2
      have := congrArg List.getLast? e
      rw [List.getLast?_reverse] at this
      simp only [List.head?_cons] at this
      rw [List.getLast?_eq_some_getLast (by simp)] at this
      exact (Option.some.inj this).symm
    have hm : (b :: r).getLast (by simp) ∈ b :: r := List.getLast_mem _
    have e1 : (a :: b :: r).getLast (by simp) = (b :: r).getLast (by simp) := List.getLast_cons (by simp)
    have hlt := (List.pairwise_cons.mp h.asc).1 _ hm
    rw [← e1, hl] at hlt
    omega
theorem bad_twice {ps : List (Int × Int)} (h2 : 1 ≤ ps.length) : isPlanD (.tuple (ps.map DL.pD ++ (ps.map DL.pD).drop (ps.length - 1))) = false := by
  rw [← List.map_drop, ← List.map_append]
  refine no_plan fun z => ?_
  have hd : ∃ x, ps.drop (ps.length - 1) = [x] ∧ x ∈ ps := by
    have hlt : ps.length - 1 < ps.length := by omega
    refine ⟨ps[ps.length - 1], ?_, List.getElem_mem hlt⟩
    rw [List.drop_eq_getElem_cons hlt, List.drop_of_length_le (by omega)]
  obtain ⟨x, hx, hm⟩ := hd
  rw [hx, List.map_append] at z
  have := (List.nodup_append.mp z.1).2.2 x.1 (List.mem_map_of_mem hm) x.1 (by simp)
  exact this rfl
theorem bad_desk {qs : List (Int × Int)} (h : ¬ (qs.map (·.2)).Nodup) : isPlanD (.tuple (sortD (qs.map DL.pD))) = false := by
  rw [sortD_pD]
  refine no_plan fun z => h ?_
  exact ((sortP_perm qs).map _).nodup_iff.mp z.2.1
theorem small_plD (ps : List (Int × Int)) (h : ps.length ≤ 4000) : SmallP (plD ps) := small_len (by simpa using h)
theorem isPair_of {p : Int × Int} (h : 0 ≤ p.1 ∧ p.1 < 8 ∧ 0 ≤ p.2 ∧ p.2 < 8) : isPairD (DL.pD p) = true := by
  show (isFrom (.int p.1) 0 7 && isFrom (.int p.2) 0 7) = true
  simp [isFrom]; omega
theorem plan_yes {ps : List (Int × Int)} (h : Pl 8 ps) : isPlanD (plD ps) = true := by
  have ha : (ps.map DL.pD).all isPairD = true := List.all_eq_true.mpr fun x hx => by
    obtain ⟨p, hp, rfl⟩ := List.mem_map.mp hx
    exact isPair_of (h.rng p hp)
  show isPlanD (.tuple (ps.map DL.pD)) = true
  rw [plan_pairs ha, Bool.and_eq_true, apart_iff, decide_eq_true_eq]
  exact ⟨⟨h.firsts, h.des⟩, (sortP_of h.sorted).symm⟩
theorem book_yes {b : List (List (Int × Int))} (h : Bk b) : isBookD (bkD b) = true := by
  show isBookD (.tuple (b.map plD)) = true
  have := List.length_pos_iff.mpr h.ne
  rw [book_all (by simp; omega) (by simpa using h.len), List.all_eq_true]
  intro x hx
  obtain ⟨ps, hp, rfl⟩ := List.mem_map.mp hx
  exact plan_yes (h.pl ps hp)
theorem small_bk {b : List (List (Int × Int))} (h : Bk b) : SmallB (bkD b) := fun xs e => by
  cases e
  refine ⟨by simp; have := h.len; omega, fun x hx => ?_⟩
  obtain ⟨ps, hp, rfl⟩ := List.mem_map.mp hx
  exact small_plD ps (by have := Pl.len (m := 8) (h.pl ps hp); omega)
theorem pl_of {ps : List (Int × Int)} (h : isPlanD (.tuple (ps.map DL.pD)) = true) : Pl 8 ps := by
  have ha : (ps.map DL.pD).all isPairD = true := by
    have h' : ((ps.map DL.pD).all isPairD && apart ((ps.map DL.pD).map toP) && PyData.eqv (.list (ps.map DL.pD)) (.list (sortD (ps.map DL.pD)))) = true := h
    rw [Bool.and_eq_true, Bool.and_eq_true] at h'
    exact h'.1.1
  obtain ⟨h1, h2, h3⟩ := plan_apart h
  rw [h3]
  refine Pl.of_sort (fun p hp => ?_) h1 h2
  have := List.all_eq_true.mp ha _ (List.mem_map_of_mem hp)
  have t : (isFrom (.int p.1) 0 7 && isFrom (.int p.2) 0 7) = true := this
  simp [isFrom] at t
  omega
theorem plan_of {d : D} (h : isPlanD d = true) : ∃ ps, d = plD ps ∧ Pl 8 ps := by
  cases hd : d.isTuple with
  | false => rw [plan_tup hd] at h; cases h
  | true =>
    obtain ⟨xs, rfl⟩ := tup_of hd
    have ha : xs.all isPairD = true := by
      cases e : xs.all isPairD with
      | true => rfl
      | false => rw [plan_no e] at h; cases h
    obtain ⟨ps, rfl⟩ := pairs_of ha
    exact ⟨ps, rfl, pl_of h⟩
theorem book_of {d : D} (h : isBookD d = true) : ∃ b, d = bkD b ∧ Bk b := by
  cases hd : d.isTuple with
  | false => rw [book_tup hd] at h; cases h
  | true =>
    obtain ⟨xs, rfl⟩ := tup_of hd
    have h' : (decide (1 ≤ xs.length) && decide (xs.length ≤ 16) && xs.all isPlanD) = true := h
    rw [Bool.and_eq_true, Bool.and_eq_true, decide_eq_true_eq, decide_eq_true_eq, List.all_eq_true] at h'
    obtain ⟨⟨h1, h2⟩, h3⟩ := h'
    have key : ∀ xs : List D, (∀ x ∈ xs, isPlanD x = true) → ∃ b : List (List (Int × Int)), xs = b.map plD ∧ ∀ ps ∈ b, Pl 8 ps := by
      intro xs
      induction xs with
      | nil => intro _; exact ⟨[], rfl, fun _ h => by cases h⟩
      | cons x xs ih =>
        intro h
        obtain ⟨ps, rfl, hp⟩ := plan_of (h x (List.mem_cons_self ..))
        obtain ⟨b, rfl, hb⟩ := ih fun y hy => h y (List.mem_cons_of_mem _ hy)
        exact ⟨ps :: b, rfl, fun q hq => by
          rcases List.mem_cons.mp hq with z | z
          · subst z; exact hp
          · exact hb q z⟩
    obtain ⟨b, rfl, hb⟩ := key xs h3
    rw [List.length_map] at h1 h2
    exact ⟨b, rfl, ⟨fun e => by subst e; simp at h1, h2, hb⟩⟩
def asBk : D → Option (List (List (Int × Int)))
  | .tuple xs => plansO xs
  | _ => none
theorem e_asBk {xs : List D} : asBk (.tuple xs) = plansO xs := rfl
theorem asBk_bk (b : List (List (Int × Int))) : asBk (bkD b) = some b := plansO_m b
def lens (b : List (List (Int × Int))) : List Int := b.map fun p => (p.length : Int)
theorem lens_len (b : List (List (Int × Int))) : (lens b).length = b.length := by simp [lens]
theorem plD_len (b : List (List (Int × Int))) : (b.map plD).map (fun x => PyData.int ((match x with | .tuple ys => (ys.length : Int) | _ => 0))) = (lens b).map PyData.int := by
  unfold lens
  rw [List.map_map, List.map_map]
  refine List.map_congr_left fun p _ => ?_
  show PyData.int ((p.map DL.pD).length : Int) = PyData.int (p.length : Int)
  rw [List.length_map]
theorem intsD_ints : ∀ ns : List Int, intsD (ns.map PyData.int) = some ns
  | [] => rfl
  | n :: ns => by
    show (intsD (ns.map PyData.int)).map (n :: ·) = _
    rw [intsD_ints ns]; rfl
theorem r_intsO {ns : List Int} : intsO (some (ns.map PyData.int)) = some ns := intsD_ints ns
theorem map_firsts (ps : List (Int × Int)) : (ps.map DL.pD).map (fun d => PyData.int (toP d).1) = (ps.map (·.1)).map PyData.int := by
  rw [List.map_map, List.map_map]; rfl
theorem map_seconds (ps : List (Int × Int)) : (ps.map DL.pD).map (fun d => PyData.int (toP d).2) = (ps.map (·.2)).map PyData.int := by
  rw [List.map_map, List.map_map]; rfl
def pds (ps : List (Int × Int)) : D := .tuple (ps.map fun p => PyData.int p.1)
def swp (ps : List (Int × Int)) : List (Int × Int) := ps.map fun p => (p.2, p.1)
theorem map_fst (ps : List (Int × Int)) : (ps.map DL.pD).map (fun d => PyData.int (toP d).1) = (ps.map (·.1)).map PyData.int := map_firsts ps
theorem map_swp (ps : List (Int × Int)) : (ps.map DL.pD).map (fun d => DL.pD ((toP d).2, (toP d).1)) = (swp ps).map DL.pD := by
  unfold swp
  rw [List.map_map, List.map_map]; rfl
theorem small_plan {ps : List (Int × Int)} (h : Pl 8 ps) : SmallP (.tuple (ps.map DL.pD)) := small_len (by have := Pl.len (m := 8) h; simp; omega)
theorem plan_y {ps : List (Int × Int)} (h : Pl 8 ps) : isPlanD (.tuple (ps.map DL.pD)) = true := plan_yes h
theorem pair_in (p : Int × Int) (qs : List (Int × Int)) : ((qs.map DL.pD).any fun z => PyData.eqv z (DL.pD p)) = decide (p ∈ qs) := by
  induction qs with
  | nil => rfl
  | cons q qs ih =>
    rw [List.map_cons, List.any_cons, ih, eqv_pD]
    by_cases h : q = p
    · subst h; simp
    · have h2 : p ≠ q := fun e => h e.symm
      simp [h, h2]
theorem canIn_pairs (p : Int × Int) (qs : List (Int × Int)) : CanIn (DL.pD p) (qs.map DL.pD) := ⟨rfl, plain_pairs qs, Nat.le_trans (depth_pairs qs) (by decide)⟩
def ct_need_plan (cl : Str → Addr) : Ct := fun args ow KQ KB => ∃ (d : D), args = [.d d] ∧ side (SmallP d) (br (isPlanD d) (KQ (.d .none) ow) (KB ⟨.ref (cl "BadPlan"), none⟩ ow))
theorem e_need_plan {ow : List Own} {KQ : Ev → List Own → Prop} {KB : XD → List Own → Prop} {d : D} {cl : Str → Addr} : ct_need_plan cl [.d d] ow KQ KB = (side (SmallP d) (br (isPlanD d) (KQ (.d .none) ow) (KB ⟨.ref (cl "BadPlan"), none⟩ ow))) :=
  propext ⟨fun ⟨_, hX, kX⟩ => by cases hX; exact kX, fun kX => ⟨d, rfl, kX⟩⟩
def ct_persons_of (cl : Str → Addr) : Ct := fun args ow KQ KB => ∃ (d : D), args = [.d d] ∧ side (SmallP d) (br (isPlanD d) (so (asPlan d) fun ps => KQ (.d (.tuple ((ps.map (·.1)).map PyData.int))) ow) (KB ⟨.ref (cl "BadPlan"), none⟩ ow))
theorem e_persons_of {ow : List Own} {KQ : Ev → List Own → Prop} {KB : XD → List Own → Prop} {d : D} {cl : Str → Addr} : ct_persons_of cl [.d d] ow KQ KB = (side (SmallP d) (br (isPlanD d) (so (asPlan d) fun ps => KQ (.d (.tuple ((ps.map (·.1)).map PyData.int))) ow) (KB ⟨.ref (cl "BadPlan"), none⟩ ow))) :=
  propext ⟨fun ⟨_, hX, kX⟩ => by cases hX; exact kX, fun kX => ⟨d, rfl, kX⟩⟩
def D1 (xs : List Int) : List (D × D) := xs.map fun x => (.int x, .bool true)
def addI (xs : List Int) (p : Int) : List Int := if p ∈ xs then xs else xs ++ [p]
theorem D1_look (xs : List Int) (p : Int) : (dlook (D1 xs) (.int p)).isSome = decide (p ∈ xs) := by
  unfold dlook
  rw [Option.isSome_map]
  induction xs with
  | nil => rfl
  | cons x xs ih =>
    unfold D1 at ih ⊢
    rw [List.map_cons, List.find?_cons, eqv_i]
    by_cases h : x = p
    · subst h; simp
    · rw [decide_eq_false h]
      simp only [ih, List.mem_cons, Ne.symm h, false_or]
theorem D1_any (xs : List Int) (p : Int) : (D1 xs).any (fun q => PyData.eqv q.1 (.int p)) = decide (p ∈ xs) := by
  unfold D1
  rw [List.any_map, Bool.eq_iff_iff, List.any_eq_true, decide_eq_true_eq]
  constructor
  · rintro ⟨x, hx, e⟩
    have e : PyData.eqv (.int x) (.int p) = true := e
    rw [eqv_i, decide_eq_true_eq] at e
    exact e ▸ hx
  · intro h
    exact ⟨p, h, by show PyData.eqv (.int p) (.int p) = true; rw [eqv_i]; simp⟩
theorem D1_put (xs : List Int) (p : Int) : dput (D1 xs) (.int p) (.bool true) = D1 (addI xs p) := by
  unfold dput
  rw [D1_any]
  unfold addI
  by_cases h : p ∈ xs
  · rw [if_pos h, decide_eq_true h, if_pos rfl]
    unfold D1
    rw [List.map_map]
    refine List.map_congr_left fun x _ => ?_
    show (if PyData.eqv (.int x) (.int p) = true then _ else _) = _
    split <;> rfl
  · rw [if_neg h, decide_eq_false h, if_neg (by simp)]
    unfold D1
    rw [List.map_append]; rfl
theorem D1_key (xs : List Int) (p : Int) : KeyOk (D1 xs) (.int p) := .inl ⟨rfl, fun q hq => by
  obtain ⟨x, _, rfl⟩ := List.mem_map.mp hq; rfl⟩
theorem D1_keys (xs : List Int) : KeysOk (D1 xs) := .inl fun q hq => by
  obtain ⟨x, _, rfl⟩ := List.mem_map.mp hq; rfl
theorem D1_len (xs : List Int) : (D1 xs).length = xs.length := by simp [D1]
theorem D1_fst (xs : List Int) : (D1 xs).map (fun x => x.1) = xs.map PyData.int := by
  unfold D1
  rw [List.map_map]; rfl
theorem D1_sort {r : Ev} {xs : List Int} (h : xs.length ≤ 100000) : CanSortK r (D1 xs) := by
  obtain ⟨h1, h2, h3, h4⟩ := canSort_ints h
  unfold CanSortK
  rw [show (D1 xs).map (fun x => x.1) = xs.map PyData.int from D1_fst xs]
  exact ⟨.inl (D1_keys xs), h1, h2, h3, h4⟩
theorem D1_one (a : Int) : dispD [(.int a, .bool true)] = D1 [a] := rfl
theorem mem_addI {xs : List Int} {p x : Int} : x ∈ addI xs p ↔ x ∈ xs ∨ x = p := by
  unfold addI
  split
  · rename_i h
    exact ⟨.inl, fun z => z.elim id fun e => e ▸ h⟩
  · rw [List.mem_append, List.mem_singleton]
theorem addI_nd {xs : List Int} {p : Int} (h : xs.Nodup) : (addI xs p).Nodup := by
  unfold addI
  split
  · exact h
  · rename_i hp
    rw [List.nodup_append]
    exact ⟨h, by simp, fun a ha b hb => by simp at hb; subst hb; exact fun e => hp (e ▸ ha)⟩
theorem addI_in {xs : List Int} {p : Int} (h : p ∈ xs) : addI xs p = xs := if_pos h
theorem addI_len {xs : List Int} {p : Int} (h : p ∉ xs) : (addI xs p).length = xs.length + 1 := by
  unfold addI
  rw [if_neg h]; simp
def Clo (ps : List (Int × Int)) (S T : List Int) : Prop := ∀ q ∈ ps, (q.1 ∈ S ∨ q.2 ∈ T) → q.1 ∈ S ∧ q.2 ∈ T
def hung (ps : List (Int × Int)) (S T : List Int) : Nat := (ps.filter fun q => decide (q.1 ∈ S) && decide (q.2 ∈ T)).length
theorem filter_mono {α : Type} {f g : α → Bool} : ∀ {xs : List α}, (∀ x ∈ xs, f x = true → g x = true) → (xs.filter f).length ≤ (xs.filter g).length
  | [], _ => Nat.le_refl _
  | x :: xs, h => by
    have ih := filter_mono (xs := xs) fun y hy => h y (List.mem_cons_of_mem _ hy)
    rw [List.filter_cons, List.filter_cons]
    cases hf : f x with
    | true => rw [h x (List.mem_cons_self ..) hf, if_pos rfl, if_pos rfl]; simpa using ih
    | false =>
      rw [if_neg Bool.false_ne_true]
      split
      · simp; omega
      · exact ih
theorem filter_strict {α : Type} {f g : α → Bool} {z : α} : ∀ {xs : List α}, (∀ x ∈ xs, f x = true → g x = true) → z ∈ xs → f z = false → g z = true → (xs.filter f).length + 1 ≤ (xs.filter g).length
  | [], _, hz, _, _ => by cases hz
  | x :: xs, h, hz, h1, h2 => by
    have hm := filter_mono (xs := xs) fun y hy => h y (List.mem_cons_of_mem _ hy)
    rw [List.filter_cons, List.filter_cons]
    rcases List.mem_cons.mp hz with e | e
    · subst e
      rw [h1, h2, if_neg Bool.false_ne_true, if_pos rfl]
      simp; omega
    · have ih := filter_strict (xs := xs) (fun y hy => h y (List.mem_cons_of_mem _ hy)) e h1 h2
      cases hf : f x with
      | true => rw [h x (List.mem_cons_self ..) hf, if_pos rfl, if_pos rfl]; simp; omega
      | false =>
        rw [if_neg Bool.false_ne_true]
        split
        · simp; omega
        · exact ih
theorem hung_le (ps : List (Int × Int)) (S T : List Int) : hung ps S T ≤ ps.length := List.length_filter_le _ _
theorem hung_all {ps : List (Int × Int)} {S T : List Int} (h : ps.length ≤ hung ps S T) : Clo ps S T := by
  intro q hq _
  have e : ps.filter (fun q => decide (q.1 ∈ S) && decide (q.2 ∈ T)) = ps := List.filter_eq_self.mpr (by
    have := List.length_filter_eq_length_iff (l := ps) (p := fun q => decide (q.1 ∈ S) && decide (q.2 ∈ T))
    exact this.mp (Nat.le_antisymm (hung_le ps S T) h))
  have := List.filter_eq_self.mp e q hq
  simpa using this
structure Hs (ps : List (Int × Int)) (a : Int) (xs ys : List Int) : Prop where
  ndx : xs.Nodup
  ndy : ys.Nodup
  me : a ∈ xs
  low : ∀ S T : List Int, a ∈ S → Clo ps S T → (∀ x ∈ xs, x ∈ S) ∧ ∀ y ∈ ys, y ∈ T
  cnt : xs.length + ys.length ≤ 1 + hung ps xs ys
theorem Hs.step {ps : List (Int × Int)} {a : Int} {xs ys : List Int} (h : Hs ps a xs ys) {q : Int × Int} (hq : q ∈ ps) (c : q.1 ∈ xs ∨ q.2 ∈ ys) (n : ¬ (q.1 ∈ xs ∧ q.2 ∈ ys)) : Hs ps a (addI xs q.1) (addI ys q.2) ∧ hung ps xs ys + 1 ≤ hung ps (addI xs q.1) (addI ys q.2) := by
  have hh : hung ps xs ys + 1 ≤ hung ps (addI xs q.1) (addI ys q.2) := by
    unfold hung
    refine filter_strict (z := q) (fun x _ e => ?_) hq ?_ ?_
    · rw [Bool.and_eq_true, decide_eq_true_eq, decide_eq_true_eq] at e ⊢
      exact ⟨mem_addI.mpr (.inl e.1), mem_addI.mpr (.inl e.2)⟩
    · rw [← Bool.not_eq_true, Bool.and_eq_true, decide_eq_true_eq, decide_eq_true_eq]; exact n
    · rw [Bool.and_eq_true, decide_eq_true_eq, decide_eq_true_eq]
      exact ⟨mem_addI.mpr (.inr rfl), mem_addI.mpr (.inr rfl)⟩
  refine ⟨⟨addI_nd h.ndx, addI_nd h.ndy, mem_addI.mpr (.inl h.me), fun S T ha hc => ?_, ?_⟩, hh⟩
  · obtain ⟨l1, l2⟩ := h.low S T ha hc
    have := hc q hq (c.imp (l1 _) (l2 _))
    exact ⟨fun x hx => (mem_addI.mp hx).elim (l1 x) fun e => e ▸ this.1, fun y hy => (mem_addI.mp hy).elim (l2 y) fun e => e ▸ this.2⟩
  · have := h.cnt
    rcases c with c | c
    · rw [addI_in c] at hh ⊢
      rw [addI_len (fun z => n ⟨c, z⟩)]
      omega
    · rw [addI_in c] at hh ⊢
      rw [addI_len (fun z => n ⟨z, c⟩)]
      omega
structure Hg (ps : List (Int × Int)) (a : Int) (S T : List Int) : Prop where
  srtS : S.Pairwise (· < ·)
  srtT : T.Pairwise (· < ·)
  me : a ∈ S
  clo : Clo ps S T
  low : ∀ S' T' : List Int, a ∈ S' → Clo ps S' T' → (∀ x ∈ S, x ∈ S') ∧ ∀ y ∈ T, y ∈ T'
  cnt : S.length + T.length ≤ 1 + (ps.filter fun q => decide (q.1 ∈ S)).length
theorem sort_lt {ns : List Int} (h : ns.Nodup) : (sortI false ns).Pairwise (· < ·) := by
  have h1 : (sortI false ns).Nodup := (sortI_perm false ns).nodup_iff.mpr h
  have h2 := sortI_pw false ns
  rw [List.Nodup] at h1
  refine (h1.and h2).imp fun {x y} z => ?_
  have h3 := z.2
  simp [leB] at h3
  have := z.1
  omega
theorem Hs.hg {ps : List (Int × Int)} {a : Int} {xs ys : List Int} (h : Hs ps a xs ys) (c : Clo ps xs ys) : Hg ps a (sortI false xs) (sortI false ys) := by
  have mx : ∀ x, x ∈ sortI false xs ↔ x ∈ xs := fun x => (sortI_perm false xs).mem_iff
  have my : ∀ x, x ∈ sortI false ys ↔ x ∈ ys := fun x => (sortI_perm false ys).mem_iff
  refine ⟨sort_lt h.ndx, sort_lt h.ndy, (mx a).mpr h.me, fun q hq z => ?_, fun S T ha hc => ?_, ?_⟩
  · rw [mx, my] at z ⊢
    exact c q hq z
  · obtain ⟨l1, l2⟩ := h.low S T ha hc
    exact ⟨fun x hx => l1 x ((mx x).mp hx), fun y hy => l2 y ((my y).mp hy)⟩
  · rw [sortI_len, sortI_len]
    refine Nat.le_trans h.cnt (Nat.add_le_add_left ?_ 1)
    unfold hung
    refine filter_mono fun q _ e => ?_
    rw [Bool.and_eq_true, decide_eq_true_eq, decide_eq_true_eq] at e
    rw [decide_eq_true_eq, mx]
    exact e.1
theorem hs_start (ps : List (Int × Int)) (a : Int) : Hs ps a [a] [] := ⟨by simp, by simp, by simp, fun S T ha _ => ⟨fun x hx => by simp at hx; exact hx ▸ ha, fun _ z => by cases z⟩, by simp⟩
def ct_hanging : Ct := fun args ow KQ KB => ∃ (qs : List D) (a : Int), args = [.d (.tuple qs), .d (.int a)] ∧ so (pairsO qs) fun ps => side (ps.length ≤ 1000) (∀ S T, Hg ps a S T → KQ (.d (.tuple [.tuple (S.map PyData.int), .tuple (T.map PyData.int)])) ow)
theorem e_hanging {ow : List Own} {KQ : Ev → List Own → Prop} {KB : XD → List Own → Prop} {qs : List D} {a : Int} : ct_hanging [.d (.tuple qs), .d (.int a)] ow KQ KB = (so (pairsO qs) fun ps => side (ps.length ≤ 1000) (∀ S T, Hg ps a S T → KQ (.d (.tuple [.tuple (S.map PyData.int), .tuple (T.map PyData.int)])) ow)) :=
  propext ⟨fun ⟨_, _, hX, kX⟩ => by cases hX; exact kX, fun kX => ⟨qs, a, rfl, kX⟩⟩
def isSizesD : D → Bool
  | .tuple xs => decide (1 ≤ xs.length) && decide (xs.length ≤ 16) && xs.all fun x => isFrom x 0 8
  | _ => false
theorem szs_tup {d : D} (h : d.isTuple = false) : isSizesD d = false := by
  cases d with
  | tuple xs => simp [PyData.isTuple] at h
  | _ => rfl
theorem szs_len {xs : List D} (h : ¬ (1 ≤ xs.length ∧ xs.length ≤ 16)) : isSizesD (.tuple xs) = false := by
  show (decide (1 ≤ xs.length) && decide (xs.length ≤ 16) && _) = false
  by_cases h1 : 1 ≤ xs.length
  · rw [decide_eq_false (show ¬ xs.length ≤ 16 from fun z => h ⟨h1, z⟩), Bool.and_false, Bool.false_and]
  · rw [decide_eq_false h1]; rfl
theorem szs_all {xs : List D} (h1 : 1 ≤ xs.length) (h2 : xs.length ≤ 16) : isSizesD (.tuple xs) = xs.all fun x => isFrom x 0 8 := by
  show (decide (1 ≤ xs.length) && decide (xs.length ≤ 16) && _) = _
  simp [h1, h2]
structure Sz (ns : List Int) : Prop where
  ne : 1 ≤ ns.length
  len : ns.length ≤ 16
  rng : ∀ n ∈ ns, 0 ≤ n ∧ n ≤ 8
theorem froms_of : ∀ {xs : List D}, (xs.all fun x => isFrom x 0 8) = true → ∃ ns : List Int, xs = ns.map PyData.int ∧ ∀ n ∈ ns, 0 ≤ n ∧ n ≤ 8 := by
  intro xs
  induction xs with
  | nil => intro _; exact ⟨[], rfl, fun _ h => by cases h⟩
  | cons x xs ih =>
    intro h
    rw [List.all_cons, Bool.and_eq_true] at h
    obtain ⟨i, rfl, h1, h2⟩ := isFrom_int h.1
    obtain ⟨ns, rfl, hn⟩ := ih h.2
    exact ⟨i :: ns, rfl, fun n hm => by
      rcases List.mem_cons.mp hm with z | z
      · subst z; exact ⟨h1, h2⟩
      · exact hn n z⟩
theorem szs_of {d : D} (h : isSizesD d = true) : ∃ ns, d = .tuple (ns.map PyData.int) ∧ Sz ns := by
  cases hd : d.isTuple with
  | false => rw [szs_tup hd] at h; cases h
  | true =>
    obtain ⟨xs, rfl⟩ := tup_of hd
    by_cases h1 : 1 ≤ xs.length ∧ xs.length ≤ 16
    · rw [szs_all h1.1 h1.2] at h
      obtain ⟨ns, rfl, hn⟩ := froms_of h
      rw [List.length_map] at h1
      exact ⟨ns, rfl, h1.1, h1.2, hn⟩
    · rw [szs_len h1] at h; cases h
theorem szs_yes {ns : List Int} (h : Sz ns) : isSizesD (.tuple (ns.map PyData.int)) = true := by
  rw [szs_all (by simpa using h.ne) (by simpa using h.len), List.all_eq_true]
  intro x hx
  obtain ⟨n, hn, rfl⟩ := List.mem_map.mp hx
  have := h.rng n hn
  simp [isFrom, this]
theorem bools_map (f : D → Bool) (xs : List D) : blsD (xs.map fun x => .bool (f x)) = some (xs.map f) := by
  have e : xs.map (fun x => PyData.bool (f x)) = (xs.map f).map PyData.bool := by rw [List.map_map]; rfl
  rw [e, blsD_m]
theorem all_id (f : D → Bool) (xs : List D) : (xs.map f).all id = xs.all f := by
  rw [List.all_map]; rfl
def asInts : D → Option (List Int)
  | .tuple xs => intsD xs
  | .list xs => intsD xs
  | _ => none
theorem e_asIntsT {xs : List D} : asInts (.tuple xs) = intsD xs := rfl
theorem e_asIntsL {xs : List D} : asInts (.list xs) = intsD xs := rfl
theorem e_intsD {ns : List Int} : intsD (ns.map PyData.int) = some ns := intsD_ints ns
theorem asInts_e {d : D} {ns : List Int} (h : asInts d = some ns) : d = .list (ns.map PyData.int) ∨ d = .tuple (ns.map PyData.int) := by
  have key : ∀ {ds : List D} {ns : List Int}, intsD ds = some ns → ds = ns.map PyData.int := by
    intro ds ns h
    have := intsO_e (o := some (.list ds)) (ns := ns) h
    cases this; rfl
  cases d with
  | list xs => exact .inl (by rw [key h])
  | tuple xs => exact .inr (by rw [key h])
  | _ => cases h
def over (ns : List Int) (m : Int) : Int := ((ns.filter fun n => decide (m < n)).map fun n => n - m).sum
def overF (m : Int) : D → Bool
  | .int n => decide (m < n)
  | _ => false
def overM (m : Int) : D → D
  | .int n => .int (n - m)
  | d => d
theorem over_map (ns : List Int) (m : Int) : ((ns.map PyData.int).filter (overF m)).map (overM m) = ((ns.filter fun n => decide (m < n)).map fun n => n - m).map PyData.int := by
  rw [List.filter_map, List.map_map, List.map_map]; rfl
theorem perm_sum {xs ys : List Int} (h : xs.Perm ys) : xs.sum = ys.sum := by
  induction h with
  | nil => rfl
  | cons x _ ih => rw [List.sum_cons, List.sum_cons, ih]
  | swap x y l => rw [List.sum_cons, List.sum_cons, List.sum_cons, List.sum_cons]; omega
  | trans _ _ h1 h2 => exact h1.trans h2
theorem over_perm {ns ms : List Int} (h : ns.Perm ms) (m : Int) : over ns m = over ms m := by
  unfold over
  exact perm_sum ((h.filter _).map _)
theorem over_nil (m : Int) : over [] m = 0 := rfl
structure IsWide (ns : List Int) (m : Nat) : Prop where
  ok : over ((sortI true ns).drop m) (m : Int) ≤ m
  least : ∀ k, k < m → ¬ over ((sortI true ns).drop k) (k : Int) ≤ k
theorem IsWide.uniq {ns : List Int} {m k : Nat} (h : IsWide ns m) (h' : IsWide ns k) : m = k := by
  rcases Nat.lt_trichotomy m k with z | z | z
  · exact absurd h.ok (h'.least m z)
  · exact z
  · exact absurd h'.ok (h.least k z)
theorem eq_of_sorted_ints {xs ys : List Int} (hp : xs.Perm ys) (h1 : xs.Pairwise fun a b => leB true a b = true) (h2 : ys.Pairwise fun a b => leB true a b = true) : xs = ys :=
  hp.eq_of_pairwise (fun a b _ _ z y => by simp only [leB, if_true, decide_eq_true_eq] at z y; omega) h1 h2
theorem sort_back (ns : List Int) : sortI true ns = (sortI false ns).reverse := by
  refine eq_of_sorted_ints (((sortI_perm true ns).trans (sortI_perm false ns).symm).trans (List.reverse_perm _).symm) (sortI_pw true ns) ?_
  rw [List.pairwise_reverse]
  exact (sortI_pw false ns).imp fun {a b} z => by simpa [leB] using z
theorem over_back (ns : List Int) {k : Nat} (h : k ≤ ns.length) : over ((sortI false ns).take (ns.length - k)) (k : Int) = over ((sortI true ns).drop k) (k : Int) := by
  rw [sort_back, List.drop_reverse, sortI_len]
  exact over_perm (List.reverse_perm _).symm _
theorem wide_end (ns : List Int) : over ((sortI true ns).drop ns.length) (ns.length : Int) ≤ ns.length := by
  rw [List.drop_of_length_le (by rw [sortI_len]; exact Nat.le_refl _), over_nil]; omega
theorem IsWide.le {ns : List Int} {m : Nat} (h : IsWide ns m) : m ≤ ns.length := by
  rcases Nat.lt_or_ge ns.length m with z | z
  · exact absurd (wide_end ns) (h.least _ z)
  · exact z
theorem tuple_small {ns : List Int} (h : Sz ns) : SmallP (.tuple (ns.map PyData.int)) := small_len (by have := h.len; simp; omega)
theorem canEq_nil (ps : List (Int × Int)) : CanEq (.tuple (ps.map DL.pD)) (.tuple []) := ⟨by rw [plain_t]; exact plain_pairs ps, rfl, Nat.le_trans (Nat.min_le_right _ _) (by decide)⟩
theorem eqvt_nil (ps : List (Int × Int)) : PyData.eqv (.tuple (ps.map DL.pD)) (.tuple []) = decide (ps = []) := by
  cases ps with
  | nil => rfl
  | cons p ps => rfl
def onI (p : Int → Bool) : D → Bool
  | .int i => p i
  | _ => false
theorem filter_ints (n : Nat) (p : Int → Bool) : (((ups n).map PyData.int).filter (onI p)).map (fun d => d) = ((ups n).filter p).map PyData.int := by
  rw [List.map_id', List.filter_map]
  rfl
theorem near_pl {ps : List (Int × Int)} (h : Pl 8 ps) {r : Nat} (hr : r < ps.length) {x y : Int} (hx : x ∈ (ups 8).filter fun i => !decide (i ∈ (ps.eraseIdx r).map (·.1))) (hy : y ∈ (ups 8).filter fun i => !decide (i ∈ (ps.eraseIdx r).map (·.2))) :
    Pl 8 (sortP (ps.eraseIdx r ++ [(x, y)])) ∧ (sortP (ps.eraseIdx r ++ [(x, y)])).length = ps.length := by
  have hs := h.sub (List.eraseIdx_sublist ps r)
  rw [List.mem_filter] at hx hy
  have hx1 := mem_ups.mp hx.1
  have hy1 := mem_ups.mp hy.1
  have hx2 : x ∉ (ps.eraseIdx r).map (·.1) := by simpa using hx.2
  have hy2 : y ∉ (ps.eraseIdx r).map (·.2) := by simpa using hy.2
  refine ⟨Pl.of_sort (fun p hp => ?_) ?_ ?_, ?_⟩
  · rcases List.mem_append.mp hp with z | z
    · exact hs.rng p z
    · simp at z; subst z; simp; omega
  · rw [List.map_append, List.nodup_append]
    refine ⟨hs.firsts, by simp, fun a ha b hb => ?_⟩
    simp at hb; subst hb; exact fun e => hx2 (e ▸ ha)
  · rw [List.map_append, List.nodup_append]
    refine ⟨hs.des, by simp, fun a ha b hb => ?_⟩
    simp at hb; subst hb; exact fun e => hy2 (e ▸ ha)
  · rw [sortP_len, List.length_append, List.length_eraseIdx_of_lt hr]; simp; omega
theorem erase_map {α β : Type} (f : α → β) : ∀ (xs : List α) (r : Nat), (xs.map f).eraseIdx r = (xs.eraseIdx r).map f
  | [], _ => rfl
  | _ :: _, 0 => rfl
  | x :: xs, r + 1 => by simp [erase_map f xs r]
theorem ups_lt (n : Nat) : (ups n).Pairwise fun a b => a < b := by
  unfold ups
  rw [List.pairwise_map]
  exact List.pairwise_lt_range.imp fun h => by omega
def onO (n : Nat) (rs : List Int) : Int → Bool := fun k => decide (over (rs.take (n - k.toNat)) k ≤ k)
theorem first_wide (ns : List Int) : ∃ (m : Nat) (r : List Int), (ups (ns.length + 1)).filter (onO ns.length (sortI false ns)) = (m : Int) :: r ∧ IsWide ns m := by
  have mem : ∀ k : Nat, (k : Int) ∈ (ups (ns.length + 1)).filter (onO ns.length (sortI false ns)) ↔ k ≤ ns.length ∧ over ((sortI true ns).drop k) (k : Int) ≤ k := by
    intro k
    rw [List.mem_filter, mem_ups]
    unfold onO
    rw [decide_eq_true_eq, Int.toNat_natCast]
    constructor
    · rintro ⟨h1, h2⟩
      have hk : k ≤ ns.length := by omega
      rw [over_back ns hk] at h2
      exact ⟨hk, h2⟩
    · rintro ⟨h1, h2⟩
      rw [over_back ns h1]
      exact ⟨by omega, h2⟩
  have ne := (mem ns.length).mpr ⟨Nat.le_refl _, wide_end ns⟩
  have pw := (ups_lt (ns.length + 1)).sublist (List.filter_sublist (p := onO ns.length (sortI false ns)))
  generalize hf : (ups (ns.length + 1)).filter (onO ns.length (sortI false ns)) = fs at mem ne pw
  cases fs with
  | nil => cases ne
  | cons x r =>
    have hx : x ∈ (ups (ns.length + 1)).filter (onO ns.length (sortI false ns)) := by rw [hf]; exact List.mem_cons_self ..
    have hx0 := (mem_ups.mp (List.mem_filter.mp hx).1)
    obtain ⟨m, rfl⟩ : ∃ m : Nat, x = m := ⟨x.toNat, by omega⟩
    refine ⟨m, r, rfl, ((mem m).mp (List.mem_cons_self ..)).2, fun k hk z => ?_⟩
    have hm := ((mem m).mp (List.mem_cons_self ..)).1
    have h2 := (mem k).mpr ⟨by omega, z⟩
    rcases List.mem_cons.mp h2 with e | e
    · omega
    · have := (List.pairwise_cons.mp pw).1 _ e
      omega
def areNums : D → Bool
  | .tuple xs => xs.all isNum
  | _ => false
theorem nums_tup {d : D} (h : d.isTuple = false) : areNums d = false := by
  cases d with
  | tuple xs => simp [PyData.isTuple] at h
  | _ => rfl
theorem nums_t {xs : List D} : areNums (.tuple xs) = xs.all isNum := rfl
theorem nums_of {d : D} (h : areNums d = true) : ∃ ns : List Int, d = .tuple (ns.map PyData.int) := by
  cases hd : d.isTuple with
  | false => rw [nums_tup hd] at h; cases h
  | true =>
    obtain ⟨xs, rfl⟩ := tup_of hd
    have h' : xs.all isNum = true := h
    have key : ∀ xs : List D, xs.all isNum = true → ∃ ns : List Int, xs = ns.map PyData.int := by
      intro xs
      induction xs with
      | nil => intro _; exact ⟨[], rfl⟩
      | cons x xs ih =>
        intro h
        rw [List.all_cons, Bool.and_eq_true] at h
        obtain ⟨i, rfl⟩ := isNum_int h.1
        obtain ⟨ns, rfl⟩ := ih h.2
        exact ⟨i :: ns, rfl⟩
    obtain ⟨ns, rfl⟩ := key xs h'
    exact ⟨ns, rfl⟩
theorem nums_ints (ns : List Int) : areNums (.tuple (ns.map PyData.int)) = true := by
  rw [nums_t, List.all_eq_true]
  intro x hx
  obtain ⟨n, _, rfl⟩ := List.mem_map.mp hx
  rfl
def isOrd (ms : List Int) : D → Bool
  | .tuple xs => match intsD xs with
    | some ns => decide (sortI false ns = ms)
    | none => false
  | _ => false
theorem ord_ints (ms ns : List Int) : isOrd ms (.tuple (ns.map PyData.int)) = decide (sortI false ns = ms) := by
  show (match intsD (ns.map PyData.int) with | some ns => decide (sortI false ns = ms) | none => false) = _
  rw [intsD_ints]
theorem ord_of {ms : List Int} {d : D} (h : isOrd ms d = true) : ∃ ns, d = .tuple (ns.map PyData.int) ∧ sortI false ns = ms := by
  cases d with
  | tuple xs =>
    cases e : intsD xs with
    | none =>
      have h' : (match intsD xs with | some ns => decide (sortI false ns = ms) | none => false) = true := h
      rw [e] at h'; cases h'
    | some ns =>
      have h' : (match intsD xs with | some ns => decide (sortI false ns = ms) | none => false) = true := h
      rw [e, decide_eq_true_eq] at h'
      rcases asInts_e (d := .tuple xs) e with z | z
      · cases z
      · exact ⟨ns, z, h'⟩
  | _ => cases h
theorem ord_no {ms : List Int} {d : D} (h : areNums d = false) : isOrd ms d = false := by
  cases e : isOrd ms d with
  | false => rfl
  | true =>
    obtain ⟨ns, rfl, _⟩ := ord_of e
    rw [nums_ints] at h; cases h
theorem ord_perm {n : Nat} {ns : List Int} (h : ns.Perm (ups n)) : sortI false ns = ups n := by
  refine (h.symm.trans (sortI_perm false ns).symm).symm.eq_of_pairwise (fun a b _ _ z y => by simp only [leB, decide_eq_true_eq, Bool.false_eq_true, if_false] at z y; omega) (sortI_pw false ns) ?_
  exact (ups_lt n).imp fun {a b} z => by simp only [leB, decide_eq_true_eq, Bool.false_eq_true, if_false]; omega
theorem perm_ord {n : Nat} {ns : List Int} (h : sortI false ns = ups n) : ns.Perm (ups n) := h ▸ (sortI_perm false ns).symm
def plAt (b : List (List (Int × Int))) : D → D
  | .int i => plD (b.getD i.toNat [])
  | d => d
def inOrd (b : List (List (Int × Int))) (ns : List Int) : List (List (Int × Int)) := ns.map fun i => b.getD i.toNat []
theorem plAt_map (b : List (List (Int × Int))) (ns : List Int) : (ns.map PyData.int).map (plAt b) = (inOrd b ns).map plD := by
  unfold inOrd
  rw [List.map_map, List.map_map]; rfl
theorem at_bk {b : List (List (Int × Int))} {i : Int} (h0 : 0 ≤ i) (h1 : i < b.length) : atI (b.map plD) i = some (plAt b (.int i)) := by
  obtain ⟨n, rfl⟩ : ∃ n : Nat, i = n := ⟨i.toNat, by omega⟩
  rw [DL.atI_lt (by simp; omega)]
  show some ((b.map plD).getD n .none) = some (plD (b.getD (n : Int).toNat []))
  rw [Int.toNat_natCast, List.getD_eq_getElem?_getD, List.getD_eq_getElem?_getD, List.getElem?_map, List.getElem?_eq_getElem (show n < b.length by omega)]; rfl
theorem sh_bk {b : List (List (Int × Int))} (h : ∀ ps ∈ b, Pl 8 ps) (hl : b.length ≤ 16) : Sh 3 400 (.tuple (b.map plD)) :=
  Sh.tupN (k := 2) (n := 24) (m := 16) (fun x hx => by
    obtain ⟨p, hp, rfl⟩ := List.mem_map.mp hx
    exact sh_plD (h p hp)) (by simpa using hl)
theorem show_bk2 {b : List (List (Int × Int))} (h : ∀ ps ∈ b, Pl 8 ps) (hl : b.length ≤ 16) : CanShow (.list [.tuple (b.map plD), .tuple (b.map plD)]) := Sh.few (k := 3) (n := 400) (fun x hx => by
  simp only [List.mem_cons, List.not_mem_nil, or_false, or_self] at hx
  subst hx
  exact sh_bk h hl) (by omega) (by simp)
theorem inOrd_bk {b : List (List (Int × Int))} (hb : Bk b) {ns : List Int} (h : ns.Perm (ups b.length)) : Bk (inOrd b ns) := by
  have hl := h.length_eq
  rw [ups_len] at hl
  have h0 := List.length_pos_iff.mpr hb.ne
  have h16 := hb.len
  have e : (inOrd b ns).length = b.length := by unfold inOrd; rw [List.length_map, hl]
  refine ⟨fun z => ?_, by omega, fun ps hp => ?_⟩
  · rw [z, List.length_nil] at e; omega
  · obtain ⟨i, hi, rfl⟩ := List.mem_map.mp hp
    have := mem_ups.mp (h.mem_iff.mp hi)
    refine hb.pl _ ?_
    rw [List.getD_eq_getElem?_getD, List.getElem?_eq_getElem (by omega), Option.getD_some]
    exact List.getElem_mem _
theorem canEq_ints (xs : List D) (ms : List Int) (h : PyData.plainAll xs = true := by first | exact plain_ints _ | (rw [sortD_i]; exact plain_ints _)) : CanEq (.list xs) (.list (ms.map PyData.int)) :=
  ⟨h, plain_ints ms, Nat.le_trans (Nat.min_le_right _ _) (Nat.le_trans (Nat.succ_le_succ (depth_ints ms)) (by decide))⟩
theorem int_in (p : Int) (qs : List Int) : ((qs.map PyData.int).any fun z => PyData.eqv z (.int p)) = decide (p ∈ qs) := by
  induction qs with
  | nil => rfl
  | cons q qs ih =>
    rw [List.map_cons, List.any_cons, ih, eqv_i]
    by_cases h : q = p
    · subst h; simp
    · have h2 : p ≠ q := fun e => h e.symm
      simp [h, h2]
theorem canIn_int (p : Int) (qs : List Int) : CanIn (.int p) (qs.map PyData.int) := ⟨rfl, plain_ints qs, Nat.le_trans (depth_ints qs) (by decide)⟩
def inS (S : List Int) : D → Bool
  | .tuple (.int p :: _) => decide (p ∈ S)
  | _ => false
def wthn (ps : List (Int × Int)) (S : List Int) : List (Int × Int) := ps.filter fun q => decide (q.1 ∈ S)
theorem wthn_map (ps : List (Int × Int)) (S : List Int) : ((ps.map DL.pD).filter (inS S)).map (fun d => d) = (wthn ps S).map DL.pD := by
  rw [List.map_id', List.filter_map]; rfl
theorem stay_map (ps : List (Int × Int)) (S : List Int) : ((ps.map DL.pD).filter (fun d => !inS S d)).map (fun d => d) = (ps.filter fun q => !decide (q.1 ∈ S)).map DL.pD := by
  rw [List.map_id', List.filter_map]; rfl
theorem hg_len {ps : List (Int × Int)} {a : Int} {S T : List Int} (h : Hg ps a S T) : S.length + T.length ≤ 1 + ps.length := Nat.le_trans h.cnt (Nat.add_le_add_left (List.length_filter_le _ _) 1)
def kindS (as bs : List (Int × Int)) : Str := if as = bs then "same" else if as.map (·.1) = bs.map (·.1) ∧ sortI false (as.map (·.2)) = sortI false (bs.map (·.2)) then "ring" else "trail"
def ct_within : Ct := fun args ow KQ KB => ∃ (qs ss : List D), args = [.d (.tuple qs), .d (.tuple ss)] ∧ so (pairsO qs) fun ps => so (intsD ss) fun S => side (ps.length ≤ 1000 ∧ S.length ≤ 1000) (KQ (.nl ((wthn ps S).map DL.pD)) ow)
theorem e_within {ow : List Own} {KQ : Ev → List Own → Prop} {KB : XD → List Own → Prop} {qs ss : List D} : ct_within [.d (.tuple qs), .d (.tuple ss)] ow KQ KB = (so (pairsO qs) fun ps => so (intsD ss) fun S => side (ps.length ≤ 1000 ∧ S.length ≤ 1000) (KQ (.nl ((wthn ps S).map DL.pD)) ow)) :=
  propext ⟨fun ⟨_, _, hX, kX⟩ => by cases hX; exact kX, fun kX => ⟨qs, ss, rfl, kX⟩⟩
def ct_kind_of : Ct := fun args ow KQ KB => ∃ (qs rs : List D), args = [.d (.list qs), .d (.list rs)] ∧ so (pairsO qs) fun ps => so (pairsO rs) fun us => side (ps.length ≤ 1000 ∧ us.length ≤ 1000) (KQ (.d (.str (kindS ps us))) ow)
theorem e_kind_of {ow : List Own} {KQ : Ev → List Own → Prop} {KB : XD → List Own → Prop} {qs rs : List D} : ct_kind_of [.d (.list qs), .d (.list rs)] ow KQ KB = (so (pairsO qs) fun ps => so (pairsO rs) fun us => side (ps.length ≤ 1000 ∧ us.length ≤ 1000) (KQ (.d (.str (kindS ps us))) ow)) :=
  propext ⟨fun ⟨_, _, hX, kX⟩ => by cases hX; exact kX, fun kX => ⟨qs, rs, rfl, kX⟩⟩
def pieceD (e : List Int × List Int × Str) : D := .tuple [.tuple (e.1.map PyData.int), .tuple (e.2.1.map PyData.int), .str e.2.2]
def IsPiece (ps us : List (Int × Int)) (e : List Int × List Int × Str) : Prop := ∃ a, a ∈ (ps ++ us).map (·.1) ∧ Hg (ps ++ us) a e.1 e.2.1 ∧ e.2.2 = kindS (wthn ps e.1) (wthn us e.1)
theorem hg_meet {ps : List (Int × Int)} {a b : Int} {S T S' T' : List Int} (h : Hg ps a S T) (h' : Hg ps b S' T') {x : Int} (hx : x ∈ S) (hx' : x ∈ S') : a ∈ S' := by
  refine Classical.byContradiction fun n => ?_
  have c : Clo ps (S.filter fun z => !decide (z ∈ S')) (T.filter fun z => !decide (z ∈ T')) := by
    intro q hq z
    have key : q.1 ∈ S ∧ q.2 ∈ T ∧ ¬ (q.1 ∈ S' ∨ q.2 ∈ T') := by
      rcases z with z | z
      · rw [List.mem_filter] at z
        have z2 : q.1 ∉ S' := by simpa using z.2
        have c1 := h.clo q hq (.inl z.1)
        exact ⟨c1.1, c1.2, fun w => z2 (h'.clo q hq w).1⟩
      · rw [List.mem_filter] at z
        have z2 : q.2 ∉ T' := by simpa using z.2
        have c1 := h.clo q hq (.inr z.1)
        exact ⟨c1.1, c1.2, fun w => z2 (h'.clo q hq w).2⟩
    obtain ⟨k1, k2, k3⟩ := key
    exact ⟨List.mem_filter.mpr ⟨k1, by simpa using fun w => k3 (.inl w)⟩, List.mem_filter.mpr ⟨k2, by simpa using fun w => k3 (.inr w)⟩⟩
  have := (h.low _ _ (List.mem_filter.mpr ⟨h.me, by simpa using n⟩) c).1 x hx
  rw [List.mem_filter] at this
  exact absurd hx' (by simpa using this.2)
theorem hg_in {ps : List (Int × Int)} {a : Int} {S T : List Int} (h : Hg ps a S T) (ha : a ∈ ps.map (·.1)) : ∀ x ∈ S, x ∈ ps.map (·.1) :=
  (h.low (ps.map (·.1)) (ps.map (·.2)) ha fun q hq _ => ⟨List.mem_map_of_mem hq, List.mem_map_of_mem hq⟩).1
theorem hg_uniq {ps : List (Int × Int)} {a b : Int} {S T S' T' : List Int} (h : Hg ps a S T) (h' : Hg ps b S' T') (ha : a ∈ S') (hb : b ∈ S) : S = S' ∧ T = T' := by
  obtain ⟨l1, l2⟩ := h.low S' T' ha h'.clo
  obtain ⟨m1, m2⟩ := h'.low S T hb h.clo
  have eqs : ∀ {xs ys : List Int}, xs.Pairwise (· < ·) → ys.Pairwise (· < ·) → (∀ x ∈ xs, x ∈ ys) → (∀ x ∈ ys, x ∈ xs) → xs = ys := fun {xs ys} p1 p2 s1 s2 => by
    have n1 : xs.Nodup := p1.imp fun {a b} z => by omega
    have n2 : ys.Nodup := p2.imp fun {a b} z => by omega
    have pm : xs.Perm ys := (List.perm_ext_iff_of_nodup n1 n2).mpr fun z => ⟨s1 z, s2 z⟩
    exact pm.eq_of_pairwise (fun a b _ _ z y => by omega) p1 p2
  exact ⟨eqs h.srtS h'.srtS l1 m1, eqs h.srtT h'.srtT l2 m2⟩
def ct_pieces (cl : Str → Addr) : Ct := fun args ow KQ KB => ∃ (d e : D), args = [.d d, .d e] ∧ side (SmallP d ∧ SmallP e) (br (isPlanD d) (br (isPlanD e) (so (asPlan d) fun ps => so (asPlan e) fun us => ∀ L : List (List Int × List Int × Str), (∀ e ∈ L, IsPiece ps us e) → L.length ≤ 16 → KQ (.nl (L.map pieceD)) ow) (KB ⟨.ref (cl "BadPlan"), none⟩ ow)) (KB ⟨.ref (cl "BadPlan"), none⟩ ow))
theorem e_pieces {ow : List Own} {KQ : Ev → List Own → Prop} {KB : XD → List Own → Prop} {d e : D} {cl : Str → Addr} : ct_pieces cl [.d d, .d e] ow KQ KB = (side (SmallP d ∧ SmallP e) (br (isPlanD d) (br (isPlanD e) (so (asPlan d) fun ps => so (asPlan e) fun us => ∀ L : List (List Int × List Int × Str), (∀ e ∈ L, IsPiece ps us e) → L.length ≤ 16 → KQ (.nl (L.map pieceD)) ow) (KB ⟨.ref (cl "BadPlan"), none⟩ ow)) (KB ⟨.ref (cl "BadPlan"), none⟩ ow))) :=
  propext ⟨fun ⟨_, _, hX, kX⟩ => by cases hX; exact kX, fun kX => ⟨d, e, rfl, kX⟩⟩
def ct_swapped (cl : Str → Addr) : Ct := fun args ow KQ KB => ∃ (d e p : D), args = [.d d, .d e, .d p] ∧ side (SmallP d ∧ SmallP e ∧ p.plain = true) (br (isPlanD d) (br (isPlanD e) (so (asPlan d) fun ps => so (asPlan e) fun us => br (isNum p) (so (inD (some p)) fun i => br (decide (i ∈ ps.map (·.1) ++ us.map (·.1))) (∀ S T, Hg (ps ++ us) i S T → KQ (.d (plD (sortP ((ps.filter fun q => !decide (q.1 ∈ S)) ++ wthn us S)))) ow) (KB ⟨.ref (cl "BadPerson"), none⟩ ow)) (KB ⟨.ref (cl "BadPerson"), none⟩ ow)) (KB ⟨.ref (cl "BadPlan"), none⟩ ow)) (KB ⟨.ref (cl "BadPlan"), none⟩ ow))
theorem e_swapped {ow : List Own} {KQ : Ev → List Own → Prop} {KB : XD → List Own → Prop} {d e p : D} {cl : Str → Addr} : ct_swapped cl [.d d, .d e, .d p] ow KQ KB = (side (SmallP d ∧ SmallP e ∧ p.plain = true) (br (isPlanD d) (br (isPlanD e) (so (asPlan d) fun ps => so (asPlan e) fun us => br (isNum p) (so (inD (some p)) fun i => br (decide (i ∈ ps.map (·.1) ++ us.map (·.1))) (∀ S T, Hg (ps ++ us) i S T → KQ (.d (plD (sortP ((ps.filter fun q => !decide (q.1 ∈ S)) ++ wthn us S)))) ow) (KB ⟨.ref (cl "BadPerson"), none⟩ ow)) (KB ⟨.ref (cl "BadPerson"), none⟩ ow)) (KB ⟨.ref (cl "BadPlan"), none⟩ ow)) (KB ⟨.ref (cl "BadPlan"), none⟩ ow))) :=
  propext ⟨fun ⟨_, _, _, hX, kX⟩ => by cases hX; exact kX, fun kX => ⟨d, e, p, rfl, kX⟩⟩
def ct_law_pick : Ct := fun args ow KQ KB => ∃ (k : Nat) (x : D), args = [.o k, .d x] ∧ so (seD (some x)) fun ds => so (stOf ow k) fun t => side (ds ≠ [] ∧ ds.length ≤ 100000 ∧ t < 10 ^ 9) (∀ d ∈ ds, KQ (.d d) (ow.set k (.st (t + 1))))
theorem e_law_pick {ow : List Own} {KQ : Ev → List Own → Prop} {KB : XD → List Own → Prop} {k : Nat} {x : D} : ct_law_pick [.o k, .d x] ow KQ KB = (so (seD (some x)) fun ds => so (stOf ow k) fun t => side (ds ≠ [] ∧ ds.length ≤ 100000 ∧ t < 10 ^ 9) (∀ d ∈ ds, KQ (.d d) (ow.set k (.st (t + 1))))) :=
  propext ⟨fun ⟨_, _, hX, kX⟩ => by cases hX; exact kX, fun kX => ⟨k, x, rfl, kX⟩⟩
def ct_law_mixed : Ct := fun args ow KQ KB => ∃ (k : Nat) (x : D), args = [.o k, .d x] ∧ so (seD (some x)) fun ds => so (stOf ow k) fun t => side (ds.length ≤ 1000 ∧ PyData.plainAll ds = true ∧ t + ds.length < 10 ^ 9) (∀ zs t', zs.Perm ds → t' ≤ t + ds.length → KQ (.nl zs) (ow.set k (.st t')))
theorem e_law_mixed {ow : List Own} {KQ : Ev → List Own → Prop} {KB : XD → List Own → Prop} {k : Nat} {x : D} : ct_law_mixed [.o k, .d x] ow KQ KB = (so (seD (some x)) fun ds => so (stOf ow k) fun t => side (ds.length ≤ 1000 ∧ PyData.plainAll ds = true ∧ t + ds.length < 10 ^ 9) (∀ zs t', zs.Perm ds → t' ≤ t + ds.length → KQ (.nl zs) (ow.set k (.st t')))) :=
  propext ⟨fun ⟨_, _, hX, kX⟩ => by cases hX; exact kX, fun kX => ⟨k, x, rfl, kX⟩⟩
def ct_law_plan : Ct := fun args ow KQ KB => ∃ (k : Nat) (many most : Int), args = [.o k, .d (.int many), .d (.int most)] ∧ so (stOf ow k) fun t => side (0 ≤ many ∧ 0 ≤ most ∧ most ≤ 8 ∧ t + 16 < 10 ^ 9)
  (∀ ps t', Pl most ps → ps.length = min many.toNat most.toNat → t' ≤ t + 16 → KQ (.d (plD ps)) (ow.set k (.st t')))
theorem e_law_plan {ow : List Own} {KQ : Ev → List Own → Prop} {KB : XD → List Own → Prop} {k : Nat} {many most : Int} : ct_law_plan [.o k, .d (.int many), .d (.int most)] ow KQ KB = (so (stOf ow k) fun t => side (0 ≤ many ∧ 0 ≤ most ∧ most ≤ 8 ∧ t + 16 < 10 ^ 9)
  (∀ ps t', Pl most ps → ps.length = min many.toNat most.toNat → t' ≤ t + 16 → KQ (.d (plD ps)) (ow.set k (.st t')))) :=
  propext ⟨fun ⟨_, _, _, hX, kX⟩ => by cases hX; exact kX, fun kX => ⟨k, many, most, rfl, kX⟩⟩
def ct_law_any_plan : Ct := fun args ow KQ KB => ∃ (k : Nat) (most : Int), args = [.o k, .d (.int most)] ∧ so (stOf ow k) fun t => side (0 ≤ most ∧ most ≤ 8 ∧ t + 17 < 10 ^ 9)
  (∀ ps t', Pl most ps → t' ≤ t + 17 → KQ (.d (plD ps)) (ow.set k (.st t')))
theorem e_law_any_plan {ow : List Own} {KQ : Ev → List Own → Prop} {KB : XD → List Own → Prop} {k : Nat} {most : Int} : ct_law_any_plan [.o k, .d (.int most)] ow KQ KB = (so (stOf ow k) fun t => side (0 ≤ most ∧ most ≤ 8 ∧ t + 17 < 10 ^ 9)
  (∀ ps t', Pl most ps → t' ≤ t + 17 → KQ (.d (plD ps)) (ow.set k (.st t')))) :=
  propext ⟨fun ⟨_, _, hX, kX⟩ => by cases hX; exact kX, fun kX => ⟨k, most, rfl, kX⟩⟩
def ct_law_near_plan : Ct := fun args ow KQ KB => ∃ (k : Nat) (d : D), args = [.o k, .d d] ∧ so (asPlan d) fun ps => so (stOf ow k) fun t => side (Pl 8 ps ∧ t + 3 < 10 ^ 9)
  (∀ qs t', Pl 8 qs → qs.length = ps.length → t' ≤ t + 3 → KQ (.d (plD qs)) (ow.set k (.st t')))
theorem e_law_near_plan {ow : List Own} {KQ : Ev → List Own → Prop} {KB : XD → List Own → Prop} {k : Nat} {d : D} : ct_law_near_plan [.o k, .d d] ow KQ KB = (so (asPlan d) fun ps => so (stOf ow k) fun t => side (Pl 8 ps ∧ t + 3 < 10 ^ 9)
  (∀ qs t', Pl 8 qs → qs.length = ps.length → t' ≤ t + 3 → KQ (.d (plD qs)) (ow.set k (.st t')))) :=
  propext ⟨fun ⟨_, _, hX, kX⟩ => by cases hX; exact kX, fun kX => ⟨k, d, rfl, kX⟩⟩
def ct_law_bool_pair : Ct := fun args ow KQ KB => ∃ (k : Nat) (d : D), args = [.o k, .d d] ∧ so (asPair d) fun p => so (stOf ow k) fun t => side (t + 1 < 10 ^ 9)
  (∀ d' t', isPairD d' = false → SmallP d' → t' ≤ t + 1 → KQ (.d d') (ow.set k (.st t')))
theorem e_law_bool_pair {ow : List Own} {KQ : Ev → List Own → Prop} {KB : XD → List Own → Prop} {k : Nat} {d : D} : ct_law_bool_pair [.o k, .d d] ow KQ KB = (so (asPair d) fun p => so (stOf ow k) fun t => side (t + 1 < 10 ^ 9)
  (∀ d' t', isPairD d' = false → SmallP d' → t' ≤ t + 1 → KQ (.d d') (ow.set k (.st t')))) :=
  propext ⟨fun ⟨_, _, hX, kX⟩ => by cases hX; exact kX, fun kX => ⟨k, d, rfl, kX⟩⟩
def ct_law_bad_plan : Ct := fun args ow KQ KB => ∃ (k : Nat), args = [.o k] ∧ so (stOf ow k) fun t => side (t + 30 < 10 ^ 9)
  (∀ d t', isPlanD d = false → SmallB d → t' ≤ t + 30 → KQ (.d d) (ow.set k (.st t')))
theorem e_law_bad_plan {ow : List Own} {KQ : Ev → List Own → Prop} {KB : XD → List Own → Prop} {k : Nat} : ct_law_bad_plan [.o k] ow KQ KB = (so (stOf ow k) fun t => side (t + 30 < 10 ^ 9)
  (∀ d t', isPlanD d = false → SmallB d → t' ≤ t + 30 → KQ (.d d) (ow.set k (.st t')))) :=
  propext ⟨fun ⟨_, hX, kX⟩ => by cases hX; exact kX, fun kX => ⟨k, rfl, kX⟩⟩
def swpL (ps us : List (Int × Int)) (S : List Int) : List (Int × Int) := (ps.filter fun q => !decide (q.1 ∈ S)) ++ wthn us S
theorem swap_plan {ps us : List (Int × Int)} {a : Int} {S T : List Int} (hp : Pl 8 ps) (hu : Pl 8 us) (h : Hg (ps ++ us) a S T) : Pl 8 (sortP (swpL ps us S)) := by
  refine Pl.of_sort (fun p hm => ?_) ?_ ?_
  · rcases List.mem_append.mp hm with z | z
    · exact hp.rng p (List.mem_filter.mp z).1
    · exact hu.rng p (List.mem_filter.mp z).1
  · unfold swpL
    rw [List.map_append, List.nodup_append]
    refine ⟨hp.firsts.sublist (List.filter_sublist.map _), hu.firsts.sublist (List.filter_sublist.map _), fun x hx y hy e => ?_⟩
    obtain ⟨q, hq, rfl⟩ := List.mem_map.mp hx
    obtain ⟨r, hr, rfl⟩ := List.mem_map.mp hy
    have h1 := (List.mem_filter.mp hq).2
    have h2 := (List.mem_filter.mp hr).2
    rw [e] at h1
    rw [decide_eq_true_eq] at h2
    simp [h2] at h1
  · unfold swpL
    rw [List.map_append, List.nodup_append]
    refine ⟨hp.des.sublist (List.filter_sublist.map _), hu.des.sublist (List.filter_sublist.map _), fun x hx y hy e => ?_⟩
    obtain ⟨q, hq, rfl⟩ := List.mem_map.mp hx
    obtain ⟨r, hr, rfl⟩ := List.mem_map.mp hy
    obtain ⟨q1, h1⟩ := List.mem_filter.mp hq
    obtain ⟨r1, h2⟩ := List.mem_filter.mp hr
    rw [decide_eq_true_eq] at h2
    have c1 := h.clo r (List.mem_append_right _ r1) (.inl h2)
    have c2 := h.clo q (List.mem_append_left _ q1) (.inr (e ▸ c1.2))
    simp [c2.1] at h1
theorem filter_perm (p : Int × Int → Bool) (ps : List (Int × Int)) : (ps.filter (fun q => !p q) ++ ps.filter p).Perm ps := by
  induction ps with
  | nil => exact .refl _
  | cons q ps ih =>
    rw [List.filter_cons, List.filter_cons]
    cases p q with
    | true => simpa using List.perm_middle.trans (List.Perm.cons q ih)
    | false => simpa using List.Perm.cons q ih
theorem swap_perm (ps us : List (Int × Int)) (S : List Int) : (swpL ps us S ++ swpL us ps S).Perm (ps ++ us) := by
  unfold swpL wthn
  have h1 := filter_perm (fun q => decide (q.1 ∈ S)) ps
  have h2 := filter_perm (fun q => decide (q.1 ∈ S)) us
  generalize ps.filter (fun q => !decide (q.1 ∈ S)) = A at h1 ⊢
  generalize ps.filter (fun q => decide (q.1 ∈ S)) = B at h1 ⊢
  generalize us.filter (fun q => !decide (q.1 ∈ S)) = C at h2 ⊢
  generalize us.filter (fun q => decide (q.1 ∈ S)) = D' at h2 ⊢
  refine List.Perm.trans ?_ (h1.append h2)
  rw [List.append_assoc, List.append_assoc]
  refine List.Perm.append_left A ?_
  refine (List.perm_append_comm (l₁ := D') (l₂ := C ++ B)).trans ?_
  rw [List.append_assoc]
  refine (List.perm_append_comm (l₁ := C) (l₂ := B ++ D')).trans ?_
  rw [List.append_assoc]
  exact List.Perm.append_left B List.perm_append_comm
theorem in_le {S : List Int} {us : List (Int × Int)} (hf : (us.map (·.1)).Nodup) : (us.filter fun q => decide (q.1 ∈ S)).length ≤ S.length := by
  have n : ((us.filter fun q => decide (q.1 ∈ S)).map (·.1)).Nodup := hf.sublist (List.filter_sublist.map _)
  rw [← List.length_map (f := fun q : Int × Int => q.1)]
  refine n.length_le_of_subset fun x hx => ?_
  obtain ⟨q, hq, rfl⟩ := List.mem_map.mp hx
  exact of_decide_eq_true (List.mem_filter.mp hq).2
theorem in_leT {T : List Int} {us : List (Int × Int)} (hf : (us.map (·.2)).Nodup) : (us.filter fun q => decide (q.2 ∈ T)).length ≤ T.length := by
  have n : ((us.filter fun q => decide (q.2 ∈ T)).map (·.2)).Nodup := hf.sublist (List.filter_sublist.map _)
  rw [← List.length_map (f := fun q : Int × Int => q.2)]
  refine n.length_le_of_subset fun x hx => ?_
  obtain ⟨q, hq, rfl⟩ := List.mem_map.mp hx
  exact of_decide_eq_true (List.mem_filter.mp hq).2
theorem balanced {ps us : List (Int × Int)} {a : Int} {S T : List Int} (hp : Pl 8 ps) (hu : Pl 8 us) (h : Hg (ps ++ us) a S T) : S.length ≤ T.length + 1 ∧ T.length ≤ S.length + 1 := by
  have c := h.cnt
  have e : (ps ++ us).filter (fun q => decide (q.1 ∈ S)) = (ps ++ us).filter (fun q => decide (q.2 ∈ T)) := List.filter_congr fun q hq => by
    rw [decide_eq_decide]
    exact ⟨fun z => (h.clo q hq (.inl z)).2, fun z => (h.clo q hq (.inr z)).1⟩
  have c2 := c
  rw [e, List.filter_append, List.length_append] at c2
  rw [List.filter_append, List.length_append] at c
  have l1 := in_le (S := S) hp.firsts
  have l2 := in_le (S := S) hu.firsts
  have l3 := in_leT (T := T) hp.des
  have l4 := in_leT (T := T) hu.des
  omega
theorem ring_is {ps us : List (Int × Int)} {a : Int} {S T : List Int} (hp : Pl 8 ps) (hu : Pl 8 us) (ha : a ∈ (ps ++ us).map (·.1)) (h : Hg (ps ++ us) a S T) (hk : kindS (wthn ps S) (wthn us S) = "ring") : S.length = T.length ∧ 2 ≤ S.length := by
  unfold kindS at hk
  split at hk
  · exact absurd hk (by decide)
  rename_i hne
  split at hk
  · rename_i hr
    obtain ⟨r1, r2⟩ := hr
    have memA : ∀ q, q ∈ wthn ps S ↔ q ∈ ps ∧ q.1 ∈ S := fun q => by unfold wthn; rw [List.mem_filter, decide_eq_true_eq]
    have memB : ∀ q, q ∈ wthn us S ↔ q ∈ us ∧ q.1 ∈ S := fun q => by unfold wthn; rw [List.mem_filter, decide_eq_true_eq]
    have nS : S.Nodup := h.srtS.imp fun {a b} z => by omega
    have nT : T.Nodup := h.srtT.imp fun {a b} z => by omega
    have nA1 : ((wthn ps S).map (·.1)).Nodup := hp.firsts.sublist (List.filter_sublist.map _)
    have nA2 : ((wthn ps S).map (·.2)).Nodup := hp.des.sublist (List.filter_sublist.map _)
    have pm : ((wthn ps S).map (·.2)).Perm ((wthn us S).map (·.2)) := (sortI_perm false _).symm.trans (r2 ▸ sortI_perm false _)
    have eS : S.length = (wthn ps S).length := by
      rw [← List.length_map (f := fun q : Int × Int => q.1) (as := wthn ps S)]
      refine Nat.le_antisymm (nS.length_le_of_subset fun x hx => ?_) (nA1.length_le_of_subset fun x hx => ?_)
      · obtain ⟨q, hq, rfl⟩ := List.mem_map.mp (hg_in h ha x hx)
        rcases List.mem_append.mp hq with z | z
        · exact List.mem_map_of_mem ((memA q).mpr ⟨z, hx⟩)
        · rw [r1]; exact List.mem_map_of_mem ((memB q).mpr ⟨z, hx⟩)
      · obtain ⟨q, hq, rfl⟩ := List.mem_map.mp hx
        exact ((memA q).mp hq).2
    have eT : T.length = (wthn ps S).length := by
      rw [← List.length_map (f := fun q : Int × Int => q.2) (as := wthn ps S)]
      refine Nat.le_antisymm (nT.length_le_of_subset fun y hy => ?_) (nA2.length_le_of_subset fun y hy => ?_)
      · have hd := (h.low ((ps ++ us).map (·.1)) ((ps ++ us).map (·.2)) ha fun q hq _ => ⟨List.mem_map_of_mem hq, List.mem_map_of_mem hq⟩).2 y hy
        obtain ⟨q, hq, rfl⟩ := List.mem_map.mp hd
        have hs := (h.clo q hq (.inr hy)).1
        rcases List.mem_append.mp hq with z | z
        · exact List.mem_map_of_mem ((memA q).mpr ⟨z, hs⟩)
        · exact pm.mem_iff.mpr (List.mem_map_of_mem ((memB q).mpr ⟨z, hs⟩))
      · obtain ⟨q, hq, rfl⟩ := List.mem_map.mp hy
        have hq' := (memA q).mp hq
        exact (h.clo q (List.mem_append_left _ hq'.1) (.inl hq'.2)).2
    refine ⟨by omega, ?_⟩
    have hpos := List.length_pos_of_mem h.me
    rcases Nat.lt_or_ge S.length 2 with z | z
    · exfalso
      have lA : (wthn ps S).length = 1 := by omega
      have lB : (wthn us S).length = 1 := by
        have := congrArg List.length r1
        rw [List.length_map, List.length_map] at this
        omega
      obtain ⟨p, hA⟩ := List.length_eq_one_iff.mp lA
      obtain ⟨q, hB⟩ := List.length_eq_one_iff.mp lB
      rw [hA, hB] at r1 pm hne
      have e1 : p.1 = q.1 := by simpa using r1
      have e2 : p.2 = q.2 := by simpa using pm
      exact hne (by rw [Prod.ext e1 e2])
    · exact z
  · exact absurd hk (by decide)
theorem perm_ints6 {zs : List D} {ns : List Int} (h : zs.Perm (ns.map PyData.int)) : ∃ ws : List Int, zs = ws.map PyData.int ∧ ws.Perm ns := by
  have go : ∀ zs : List D, (∀ z ∈ zs, ∃ i, z = PyData.int i) → ∃ ws : List Int, zs = ws.map PyData.int := by
    intro zs
    induction zs with
    | nil => intro _; exact ⟨[], rfl⟩
    | cons z zs ih =>
      intro h
      obtain ⟨i, rfl⟩ := h z (List.mem_cons_self ..)
      obtain ⟨ws, rfl⟩ := ih fun y hy => h y (List.mem_cons_of_mem _ hy)
      exact ⟨i :: ws, rfl⟩
  obtain ⟨ws, rfl⟩ := go zs fun z hz => by
    obtain ⟨i, _, e⟩ := List.mem_map.mp (h.mem_iff.mp hz)
    exact ⟨i, e.symm⟩
  refine ⟨ws, rfl, ?_⟩
  have := h.map (fun d : D => match d with | .int i => i | _ => 0)
  rw [List.map_map, List.map_map] at this
  simpa [Function.comp_def] using this
theorem pl_zipG {as bs : List Int} (na : as.Nodup) (nb : bs.Nodup) (ra : ∀ x ∈ as, 0 ≤ x ∧ x < 8) (rb : ∀ x ∈ bs, 0 ≤ x ∧ x < 8) (hl : as.length = bs.length) : Pl 8 (sortP (as.zip bs)) := by
  refine Pl.of_sort (fun p hp => ?_) ?_ ?_
  · have h := List.of_mem_zip hp
    have h1 := ra _ h.1
    have h2 := rb _ h.2
    omega
  · rw [show (fun x : Int × Int => x.1) = Prod.fst from rfl, List.map_fst_zip (by omega)]
    exact na
  · rw [show (fun x : Int × Int => x.2) = Prod.snd from rfl, List.map_snd_zip (by omega)]
    exact nb
theorem rot_perm (bs : List Int) : (bs.drop 1 ++ bs.take 1).Perm bs := by
  cases bs with
  | nil => exact .refl _
  | cons b bs => simpa using (List.perm_append_comm (l₁ := bs) (l₂ := [b]))
theorem zip_pD {ps : List (Int × Int)} {ws : List Int} : (zipD (ps.map DL.pD) (ws.map PyData.int)) = (ps.zip ws).map fun z => .tuple [DL.pD z.1, .int z.2] := by
  unfold zipD
  rw [List.zipWith_map, List.map_zip_eq_zipWith]
  rfl
def mate : D → D
  | .tuple [.tuple [p, _], d] => .tuple [p, d]
  | d => d
theorem mate_map (ps : List (Int × Int)) (ws : List Int) : ((ps.zip ws).map fun z => PyData.tuple [DL.pD z.1, .int z.2]).map mate = ((ps.map (·.1)).zip ws).map DL.pD := by
  rw [List.map_map, List.zip_map_left, List.map_map]; rfl
theorem pl_mates {ps : List (Int × Int)} {ws : List Int} (h : Pl 8 ps) (hw : ws.Perm (ps.map (·.2))) : Pl 8 ((ps.map (·.1)).zip ws) := by
  have hl : ps.length = ws.length := by rw [hw.length_eq, List.length_map]
  have f : ((ps.map (·.1)).zip ws).map (·.1) = ps.map (·.1) := by
    rw [show (fun x : Int × Int => x.1) = Prod.fst from rfl, List.map_fst_zip (by simp; omega)]
  have g : ((ps.map (·.1)).zip ws).map (·.2) = ws := by
    rw [show (fun x : Int × Int => x.2) = Prod.snd from rfl, List.map_snd_zip (by simp; omega)]
  refine ⟨fun p hp => ?_, ?_, ?_⟩
  · have z := List.of_mem_zip hp
    obtain ⟨q, hq, e⟩ := List.mem_map.mp z.1
    obtain ⟨r, hr, e2⟩ := List.mem_map.mp (hw.mem_iff.mp z.2)
    have h1 := h.rng q hq
    have h2 := h.rng r hr
    rw [← e, ← e2]; omega
  · have z := List.pairwise_map.mpr h.2
    rw [← f] at z
    exact List.pairwise_map.mp z
  · rw [g]; exact hw.nodup_iff.mpr h.des
def ct_law_two_plans : Ct := fun args ow KQ KB => ∃ (k : Nat), args = [.o k] ∧ so (stOf ow k) fun t => side (t + 60 < 10 ^ 9) (∀ (ps us : List (Int × Int)) (t2 : Nat), Pl 8 ps → Pl 8 us → t2 ≤ t + 60 → KQ (.d (.tuple [.tuple (ps.map DL.pD), .tuple (us.map DL.pD)])) (ow.set k (.st t2)))
theorem e_law_two_plans {ow : List Own} {KQ : Ev → List Own → Prop} {KB : XD → List Own → Prop} {k : Nat} : ct_law_two_plans [.o k] ow KQ KB = (so (stOf ow k) fun t => side (t + 60 < 10 ^ 9) (∀ (ps us : List (Int × Int)) (t2 : Nat), Pl 8 ps → Pl 8 us → t2 ≤ t + 60 → KQ (.d (.tuple [.tuple (ps.map DL.pD), .tuple (us.map DL.pD)])) (ow.set k (.st t2)))) :=
  propext ⟨fun ⟨_, hX, kX⟩ => by cases hX; exact kX, fun kX => ⟨k, rfl, kX⟩⟩
theorem br_guard2 {c b1 b2 : Bool} {F R : Prop} (h : c = true → b1 = false ∧ b2 = false) (r : R) : br c (br b1 F (br b2 F R)) R :=
  br_i (fun z => by rw [(h z).1, (h z).2, br_f, br_f]; exact r) fun _ => r
theorem br_no {c : Bool} {F R : Prop} (h : c = false) (r : R) : br c F R := by rw [h, br_f]; exact r
theorem in_stay (ps : List (Int × Int)) (S : List Int) (x : D) (hx : x ∈ ps.map DL.pD) : ∃ p d : Int, x = .tuple [.int p, .int d] ∧ inS S x = decide (p ∈ S) := by
  obtain ⟨⟨p, d⟩, _, rfl⟩ := List.mem_map.mp hx
  exact ⟨p, d, rfl, rfl⟩
theorem clo_comm {ps us : List (Int × Int)} {S T : List Int} (h : Clo (ps ++ us) S T) : Clo (us ++ ps) S T := fun q hq => h q (by rw [List.mem_append] at hq ⊢; exact hq.symm)
theorem hg_comm {ps us : List (Int × Int)} {a : Int} {S T : List Int} (h : Hg (ps ++ us) a S T) : Hg (us ++ ps) a S T where
  srtS := h.srtS
  srtT := h.srtT
  me := h.me
  clo := clo_comm h.clo
  low := fun S' T' ha hc => h.low S' T' ha (clo_comm hc)
  cnt := by
    have := h.cnt
    rw [List.filter_append, List.length_append] at this ⊢
    omega
theorem adds_pD (ps us : List (Int × Int)) : (ps ++ us).map DL.pD = ps.map DL.pD ++ us.map DL.pD := List.map_append
theorem sh_two {as bs : List (Int × Int)} (h1 : Pl 8 as) (h2 : Pl 8 bs) : CanShow (.list [.tuple (as.map DL.pD), .tuple (bs.map DL.pD)]) := Sh.few (k := 2) (n := 24) (fun x hx => by
    simp only [List.mem_cons, List.not_mem_nil, or_false] at hx
    rcases hx with rfl | rfl
    · exact sh_plD h1
    · exact sh_plD h2) (by omega) (by simp)
theorem sh_one {as : List (Int × Int)} (h1 : Pl 8 as) : CanShow (.tuple (as.map DL.pD)) := (sh_plD h1).can (by omega) (by omega)
def oddD : List D := [.none, .bool true, .bool false, .str "0", .str "", .list [], .dict [], .tuple [.none], .tuple [.str "a", .int 1], .list [.list [.int 0]], .dict [(.int 0, .int 0)], .tuple [.bool true], .int 5, .int (-1)]
theorem small_odd {d : D} (h : d ∈ oddD) : SmallB d := by
  simp only [oddD, List.mem_cons, List.not_mem_nil, or_false] at h
  rcases h with rfl | rfl | rfl | rfl | rfl | rfl | rfl | rfl | rfl | rfl | rfl | rfl | rfl | rfl
  all_goals first
    | exact smallB_tup rfl
    | exact smallB_of (by simp) fun y hy => by
        simp only [List.mem_cons, List.not_mem_nil, or_false] at hy
        first
          | (subst hy; exact small_tup rfl)
          | (rcases hy with rfl | rfl <;> exact small_tup rfl)
local macro_rules | `(tactic| infer_instance) => `(tactic| simp -implicitDefEqProofs only [↓u_if, ↓u_ife, ↓u_andT, ↓u_orT, ↓u_andV, ↓u_orV, ↓u_notV, ↓wNotT, ↓u_tst, ↓u_set, ↓u_setO, ↓u_par, ↓u_asgT, ↓u_call, ↓u_callK, ↓u_tup, ↓u_lst, ↓u_lenSet, ↓u_partW, ↓wNoPart, ↓u_neg, ↓u_rev, ↓u_sl, ↓u_lstRg, ↓wListZip, ↓u_zip2, ↓u_len, ↓u_list, ↓u_tupC, ↓u_sort, ↓u_gi1, ↓u_gi2, ↓u_isa, ↓u_eq, ↓u_ne, ↓u_lt, ↓u_in, ↓u_ix, ↓u_gi, ↓u_repr, ↓u_rep, ↓u_add, ↓u_chain2, ↓u_for, ↓u_lc, ↓u_seq, ↓u_enum, ↓u_rng1, ↓u_rng2, ↓seq_later, ↓wRet, ↓wRetN, ↓wNext, ↓wExpr, ↓wCons, ↓wNil, ↓wVar, ↓wC, ↓wCB, ↓wOp2, ↓wYes, ↓wgName, ↓u_gtup, ↓u_gcons, ↓u_gnil, tuO_t, ↓so_s, ↓br_t, ↓br_f, ↓side_t, ↓so_ends, ↓nx_ends, ↓xb_ends,
  so_s, br_t, br_f, side_t, a0, pick, DL.cellOf, parStore, boD_b, inD_i, seD_l, seD_t, lsO_l, likeD_l, likeD_t, addD_i, addD_l, addD_t, addD_s, lt_i, eq_l, getapp0, getsetapp0,
  vw_d, vw_nl, vw_oe, keep_d, keep_nl, keep_o, keep_v, frz_d, frz_nl, out_d, out_nl, out_nd, out_v, out_lt, toSls_nil, ts_d, ts_nl, ts_o, ts_v, fs_nil, fs_d, fs_nl, eqv_i, plain_i, plain_b, plain_s, plain_n, plain_l, plain_t, plainAll_nil, plainAll_cons, dataLt_i, fLt_i, fGt_i, fLe_i, fGe_i,
  stOf_set, stOf_app, set_app_st, stOf_0, take_len_set, take_len_set_app, take_len_app, List.set_set, Option.isSome_some,
  Option.map_some, Option.map_none, List.length_cons, List.length_nil, List.set_cons_zero, List.set_cons_succ, List.set_nil, List.getElem?_cons_zero, List.getElem?_cons_succ, List.getElem?_nil, List.append_nil, List.cons_append, List.nil_append, List.replicate_succ, List.replicate_zero, List.length_append, List.length_set, List.take_length, List.take_nil, List.map_cons, List.map_nil, List.getD_cons_zero, List.getD_cons_succ, List.length_replicate, List.length_map, List.take_succ_cons, List.take_zero,
  Nat.sub_self, Nat.reduceSub, Nat.reduceAdd, Nat.reduceLeDiff, Nat.reduceEqDiff, Nat.reduceLT, Nat.lt_irrefl, if_false, if_true, and_self, and_true, true_and, decide_true, decide_false, Bool.not_true, Bool.not_false, Nat.zero_le, Nat.add_zero, Nat.zero_add, Int.reduceEq, Int.reduceLT, Int.reduceLE, Int.reduceSub, Int.reduceAdd, Int.reduceMul, Int.reduceNeg, Int.reduceToNat, Int.toNat_natCast, Int.cast_ofNat_Int, Int.natCast_zero, isT_t, isT_l, isT_i, isT_b, isT_s, isT_n, isT_d, isI_i, isI_b, isB_i, isB_b, isL_t, isL_l, isD_d, isD_l, isD_t, rng_len, Int.sub_zero, Int.zero_sub, ↓u_lenSc, wipe_nil, wipe_cons, atI_0, atI_1, atI_2, atI_3, pairsO_m, plansO_m, asPlan_m, plD, bkD, asPlan_t, asPair_m, ne_eq, reduceCtorEq, not_false_eq_true, ↓u_meth, ↓u_append, ↓u_popAt, isLs_ls, ls0, ls0', ls1, cell0, cell1, cset0, cset1, cset0', ↓celO_o, celO_o, noC_d, noC_u, noC_v, noC_o, NoC_s, NoC_0, NoA_s, NoA_n, Nat.le_refl, Int.reducePow, ↓wDict0, ↓wDict1, sizeLine_eq, asPair_t, true_or, or_true, or_false, false_or, false_and, and_false, ↓e_lenScr, ↓e_begun, eqv_ss, canEq_ss, canShow_bb, items_l, items_t, ↓u_maxL, ↓u_minL, ↓u_sumL, ↓u_allL, ↓u_anyL, ↓u_reprI, ↓u_isEr, ↓wSortR, ↓e_caught, errA_e, ↓u_augI, ↓u_forCn, ↓u_forCc, ↓e_forC0, inS_i, stOf_1, ts_er, keep_er, out_er, ↓u_isEx, ↓e_caughtX, errE_e, ↓e_isN, isNo_n, isNo_er, isNo_i, isNo_b, isNo_t, isNo_l, id_eq, ↓e_fld, fldE_e, ↓e_raiseF, oneD_e, ↓u_tru, truD_n, truD_b, truD_i, truD_l, truD_t, ↓u_maxS, ↓u_lstRg2, ↓u_isB, boolE_b, oE_o, ↓u_setL, pxO_p, ↓u_callW, ↓u_ctL, wkF_px, wkF_m, wkF_c, pxF_tag, wkL_px, wkL_m, wkL_c, pxL_tag, ↓u_forWn, ↓u_forWc, ↓e_forW, ↓u_lk, ndD_n, ↓u_ext, dvO_s, dvO_n, dcO_dc, dcO_lk, dcO_ls, dcO_st, dvw_o, dvw_d, dvw_nd, dvw_nl, dvw_l, dvw_t, dvw_i, ↓u_inA, ↓u_notinA, ↓u_ixA, ↓u_listA, ↓u_sortA, ↓u_lenA, ↓u_put, dE_d, ↓u_pnil, ↓u_pcons, ↓u_disp, itE_d, itE_l, itE_t, itE_nl, ↓u_any, dctE_d, ↓u_itval, ↓u_ititem, ↓u_listV, getapp1, cset1', dc0, dc0', dc1, dc1', ls1', ↓u_zipI, dd2_tt, dd2_tl, dd2_lt, dd2_ll, ↓u_sortSet, ↓u_reprA, ↓e_law_draw, ↓e_is_number, ↓e_is_from, ↓e_is_pair, ↓e_are_apart, ↓e_is_plan, ↓e_asBk, ↓e_need_plan, ↓e_persons_of, ↓e_hanging, ↓e_asIntsT, ↓e_asIntsL, ↓e_intsD, ↓e_within, ↓e_kind_of, ↓e_pieces, ↓e_swapped, ↓e_law_pick, ↓e_law_mixed, ↓e_law_plan, ↓e_law_any_plan, ↓e_law_near_plan, ↓e_law_bool_pair, ↓e_law_bad_plan, ↓e_law_two_plans, r_spotI, r_cut0, r_cut1, r_cutm, r_cut2, r_cut3, r_intsO])
local macro_rules | `(tactic| symm) => `(tactic| simp -implicitDefEqProofs only [‹stOf _ _ = some _›, ↓u_if, ↓u_ife, ↓u_andT, ↓u_orT, ↓u_andV, ↓u_orV, ↓u_notV, ↓wNotT, ↓u_tst, ↓u_set, ↓u_setO, ↓u_par, ↓u_asgT, ↓u_call, ↓u_callK, ↓u_tup, ↓u_lst, ↓u_lenSet, ↓u_partW, ↓wNoPart, ↓u_neg, ↓u_rev, ↓u_sl, ↓u_lstRg, ↓wListZip, ↓u_zip2, ↓u_len, ↓u_list, ↓u_tupC, ↓u_sort, ↓u_gi1, ↓u_gi2, ↓u_isa, ↓u_eq, ↓u_ne, ↓u_lt, ↓u_in, ↓u_ix, ↓u_gi, ↓u_repr, ↓u_rep, ↓u_add, ↓u_chain2, ↓u_for, ↓u_lc, ↓u_seq, ↓u_enum, ↓u_rng1, ↓u_rng2, ↓seq_later, ↓wRet, ↓wRetN, ↓wNext, ↓wExpr, ↓wCons, ↓wNil, ↓wVar, ↓wC, ↓wCB, ↓wOp2, ↓wYes, ↓wgName, ↓u_gtup, ↓u_gcons, ↓u_gnil, tuO_t, ↓so_s, ↓br_t, ↓br_f, ↓side_t, ↓so_ends, ↓nx_ends, ↓xb_ends,
  so_s, br_t, br_f, side_t, a0, pick, DL.cellOf, parStore, boD_b, inD_i, seD_l, seD_t, lsO_l, likeD_l, likeD_t, addD_i, addD_l, addD_t, addD_s, lt_i, eq_l, getapp0, getsetapp0,
  vw_d, vw_nl, vw_oe, keep_d, keep_nl, keep_o, keep_v, frz_d, frz_nl, out_d, out_nl, out_nd, out_v, out_lt, toSls_nil, ts_d, ts_nl, ts_o, ts_v, fs_nil, fs_d, fs_nl, eqv_i, plain_i, plain_b, plain_s, plain_n, plain_l, plain_t, plainAll_nil, plainAll_cons, dataLt_i, fLt_i, fGt_i, fLe_i, fGe_i,
  stOf_set, stOf_app, set_app_st, stOf_0, take_len_set, take_len_set_app, take_len_app, List.set_set, Option.isSome_some,
  Option.map_some, Option.map_none, List.length_cons, List.length_nil, List.set_cons_zero, List.set_cons_succ, List.set_nil, List.getElem?_cons_zero, List.getElem?_cons_succ, List.getElem?_nil, List.append_nil, List.cons_append, List.nil_append, List.replicate_succ, List.replicate_zero, List.length_append, List.length_set, List.take_length, List.take_nil, List.map_cons, List.map_nil, List.getD_cons_zero, List.getD_cons_succ, List.length_replicate, List.length_map, List.take_succ_cons, List.take_zero,
  Nat.sub_self, Nat.reduceSub, Nat.reduceAdd, Nat.reduceLeDiff, Nat.reduceEqDiff, Nat.reduceLT, Nat.lt_irrefl, if_false, if_true, and_self, and_true, true_and, decide_true, decide_false, Bool.not_true, Bool.not_false, Nat.zero_le, Nat.add_zero, Nat.zero_add, Int.reduceEq, Int.reduceLT, Int.reduceLE, Int.reduceSub, Int.reduceAdd, Int.reduceMul, Int.reduceNeg, Int.reduceToNat, Int.toNat_natCast, Int.cast_ofNat_Int, Int.natCast_zero, isT_t, isT_l, isT_i, isT_b, isT_s, isT_n, isT_d, isI_i, isI_b, isB_i, isB_b, isL_t, isL_l, isD_d, isD_l, isD_t, rng_len, Int.sub_zero, Int.zero_sub, ↓u_lenSc, wipe_nil, wipe_cons, atI_0, atI_1, atI_2, atI_3, pairsO_m, plansO_m, asPlan_m, plD, bkD, asPlan_t, asPair_m, ne_eq, reduceCtorEq, not_false_eq_true, ↓u_meth, ↓u_append, ↓u_popAt, isLs_ls, ls0, ls0', ls1, cell0, cell1, cset0, cset1, cset0', ↓celO_o, celO_o, noC_d, noC_u, noC_v, noC_o, NoC_s, NoC_0, NoA_s, NoA_n, Nat.le_refl, Int.reducePow, ↓wDict0, ↓wDict1, sizeLine_eq, asPair_t, true_or, or_true, or_false, false_or, false_and, and_false, ↓e_lenScr, ↓e_begun, eqv_ss, canEq_ss, canShow_bb, items_l, items_t, ↓u_maxL, ↓u_minL, ↓u_sumL, ↓u_allL, ↓u_anyL, ↓u_reprI, ↓u_isEr, ↓wSortR, ↓e_caught, errA_e, ↓u_augI, ↓u_forCn, ↓u_forCc, ↓e_forC0, inS_i, stOf_1, ts_er, keep_er, out_er, ↓u_isEx, ↓e_caughtX, errE_e, ↓e_isN, isNo_n, isNo_er, isNo_i, isNo_b, isNo_t, isNo_l, id_eq, ↓e_fld, fldE_e, ↓e_raiseF, oneD_e, ↓u_tru, truD_n, truD_b, truD_i, truD_l, truD_t, ↓u_maxS, ↓u_lstRg2, ↓u_isB, boolE_b, oE_o, ↓u_setL, pxO_p, ↓u_callW, ↓u_ctL, wkF_px, wkF_m, wkF_c, pxF_tag, wkL_px, wkL_m, wkL_c, pxL_tag, ↓u_forWn, ↓u_forWc, ↓e_forW, ↓u_lk, ndD_n, ↓u_ext, dvO_s, dvO_n, dcO_dc, dcO_lk, dcO_ls, dcO_st, dvw_o, dvw_d, dvw_nd, dvw_nl, dvw_l, dvw_t, dvw_i, ↓u_inA, ↓u_notinA, ↓u_ixA, ↓u_listA, ↓u_sortA, ↓u_lenA, ↓u_put, dE_d, ↓u_pnil, ↓u_pcons, ↓u_disp, itE_d, itE_l, itE_t, itE_nl, ↓u_any, dctE_d, ↓u_itval, ↓u_ititem, ↓u_listV, getapp1, cset1', dc0, dc0', dc1, dc1', ls1', ↓u_zipI, dd2_tt, dd2_tl, dd2_lt, dd2_ll, ↓u_sortSet, ↓u_reprA, ↓e_law_draw, ↓e_is_number, ↓e_is_from, ↓e_is_pair, ↓e_are_apart, ↓e_is_plan, ↓e_asBk, ↓e_need_plan, ↓e_persons_of, ↓e_hanging, ↓e_asIntsT, ↓e_asIntsL, ↓e_intsD, ↓e_within, ↓e_kind_of, ↓e_pieces, ↓e_swapped, ↓e_law_pick, ↓e_law_mixed, ↓e_law_plan, ↓e_law_any_plan, ↓e_law_near_plan, ↓e_law_bool_pair, ↓e_law_bad_plan, ↓e_law_two_plans, r_spotI, r_cut0, r_cut1, r_cutm, r_cut2, r_cut3, r_intsO])
local macro_rules | `(tactic| ac_nf) => `(tactic| repeat (first | with_reducible refine later_i ?_ | with_reducible refine frz_i ?_ | with_reducible refine lkS_i ?_ | symm))
local macro_rules | `(tactic| ac_rfl) => `(tactic| repeat (first | with_reducible refine later_i ?_ | with_reducible refine frz_i ?_ | with_reducible refine lkS_i ?_ | infer_instance))
abbrev s_is_number : Stmt := topS 1
theorem sc_is_number : FnScope ["thing"] ["thing"] (defScope s_is_number) := ⟨rfl, rfl, rfl, by decide +kernel, rfl, by decide +kernel, by decide +kernel⟩
theorem ok_is_number {P : Program} {w : World} {K : PySem.W.Frag} {mg : Str → Option Value} {base : Heap} {f : Addr} {fd : FuncData} (F : Fun K "is_number" "is_number" s_is_number f fd) (B : Bl mg) (T : Tc mg) :
    FnG P w K mg base false 2 f fd ["thing"] (spOf 1 ct_is_number) := by
  refine fngx (k := 1) F sc_is_number ⟨_, fun cdv A outer s H E hr hu hgd => ⟨_, (dss_one (ds_ret (de_and (de_callB d_isaI (by rfl) B.b_isinstance (by decide +kernel) (da_cons (dv 0) (da_cons (de_blt (v := .ty "int") (by rfl) B.b_int (by decide +kernel) rfl) da_nil))) (de_one (de_not (de_callB d_isaB (by rfl) B.b_isinstance (by decide +kernel) (da_cons (dv 0) (da_cons (de_blt (v := .ty "bool") (by rfl) B.b_bool (by decide +kernel) rfl) da_nil))))))))⟩, fun args ow KQ KB hl hc => ?_⟩
  obtain ⟨d, rfl, k⟩ := hc
  infer_instance
  refine br_i (fun h => ?_) fun h => ?_ <;> simpa [isNum, h] using k
abbrev s_is_from : Stmt := topS 2
theorem sc_is_from : FnScope ["thing", "least", "most"] ["thing", "least", "most"] (defScope s_is_from) := ⟨rfl, rfl, rfl, by decide +kernel, rfl, by decide +kernel, by decide +kernel⟩
theorem ok_is_from {P : Program} {w : World} {K : PySem.W.Frag} {mg : Str → Option Value} {base : Heap} {f : Addr} {fd : FuncData} (F : Fun K "is_from" "is_from" s_is_from f fd) (B : Bl mg) (T : Tc mg) (C_is_number : Cal P w K mg base false 2 "is_number" ["thing"] 1 ct_is_number) :
    FnG P w K mg base false 3 f fd ["thing", "least", "most"] (spOf 3 ct_is_from) := by
  refine fngx (k := 2) F sc_is_from ⟨_, fun cdv A outer s H E hr hu hgd => ⟨_, (dss_one (ds_ret (de_and (de_c C_is_number hr (by decide) (fun z => nomatch z) (passes_call (takes_of rfl rfl rfl rfl) fun _ _ _ _ h => h) (by rfl) (da_cons (dv 0) da_nil)) (de_one (de_chain (d_le hu) (d_le hu) (dv 1) (dv 0) (dv 2))))))⟩, fun args ow KQ KB hl hc => ?_⟩
  obtain ⟨d, lo, hi, rfl, k⟩ := hc
  infer_instance
  refine br_i (fun h => ?_) fun h => ?_
  · obtain ⟨i, rfl⟩ := isNum_int h
    infer_instance
    refine br_i (fun h => ?_) fun h => ?_
    · simpa [isFrom, of_decide_eq_true h] using k
    · have h' := of_decide_eq_false h
      simpa [isFrom, h'] using k
  · rw [isNum_not h] at k; exact k
abbrev s_is_pair : Stmt := topS 9
theorem sc_is_pair : FnScope ["thing"] ["thing"] (defScope s_is_pair) := ⟨rfl, rfl, rfl, by decide +kernel, rfl, by decide +kernel, by decide +kernel⟩
theorem ok_is_pair {P : Program} {w : World} {K : PySem.W.Frag} {mg : Str → Option Value} {base : Heap} {f : Addr} {fd : FuncData} (F : Fun K "is_pair" "is_pair" s_is_pair f fd) (B : Bl mg) (T : Tc mg) (C_is_from : Cal P w K mg base false 3 "is_from" ["thing", "least", "most"] 3 ct_is_from) :
    FnG P w K mg base false 4 f fd ["thing"] (spOf 1 ct_is_pair) := by
  obtain ⟨_, tc_LAST⟩ := T.c_LAST
  refine fngx (k := 3) F sc_is_pair ⟨_, fun cdv A outer s H E hr hu hgd => ⟨_, (dss_cons (ds_if (DW.dt (dw_or (dt_not (dt_val (de_callB d_isaT (by rfl) B.b_isinstance (by decide +kernel) (da_cons (dv 0) (da_cons (de_blt (v := .ty "tuple") (by rfl) B.b_tuple (by decide +kernel) rfl) da_nil))))) (dw_or1 (dt_cmp (d_ne hu) (de_callB d_len (by rfl) B.b_len (by decide +kernel) (da_cons (dv 0) da_nil)) de_int (nomark _))))) (dss_one (ds_ret de_bl)) dss_nil)
      (dss_one (ds_ret (de_and (de_c C_is_from hr (by decide) (fun z => nomatch z) (passes_call (takes_of rfl rfl rfl rfl) fun _ _ _ _ h => h) (by rfl) (da_cons (de_ix d_ix (dv 0) de_int (fun _ _ => rfl)) (da_cons de_int (da_cons (de_globI (by rfl) tc_LAST) da_nil)))) (de_one (de_c C_is_from hr (by decide) (fun z => nomatch z) (passes_call (takes_of rfl rfl rfl rfl) fun _ _ _ _ h => h) (by rfl) (da_cons (de_ix d_ix (dv 0) de_int (fun _ _ => rfl)) (da_cons de_int (da_cons (de_globI (by rfl) tc_LAST) da_nil)))))))))⟩, fun args ow KQ KB hl hc => ?_⟩
  obtain ⟨d, rfl, k⟩ := hc
  infer_instance
  cases ht : d.isTuple with
  | false => rw [isPair_tup ht] at k; infer_instance; exact k
  | true =>
    obtain ⟨xs, rfl⟩ := tup_of ht
    infer_instance
    by_cases h2 : xs.length = 2
    · obtain ⟨x, y, rfl⟩ := two_of h2
      rw [isPair_two] at k
      ac_rfl
      refine br_i (fun h => ?_) fun h => ?_ <;> simpa [h] using k
    · rw [isPair_len h2] at k
      rw [decide_eq_false (by omega)]
      infer_instance
      exact k
abbrev s_are_apart : Stmt := topS 10
theorem sc_are_apart : FnScope ["pairs", "persons", "desks", "pair"] ["pairs"] (defScope s_are_apart) := ⟨rfl, rfl, rfl, by decide +kernel, rfl, by decide +kernel, by decide +kernel⟩
theorem ok_are_apart {P : Program} {w : World} {K : PySem.W.Frag} {mg : Str → Option Value} {base : Heap} {f : Addr} {fd : FuncData} (F : Fun K "are_apart" "are_apart" s_are_apart f fd) (B : Bl mg) (T : Tc mg) :
    FnG P w K mg base false 2 f fd ["pairs"] (spOf 1 ct_are_apart) := by
  refine fngx (k := 1) F sc_are_apart ⟨_, fun cdv A outer s H E hr hu hgd => ⟨_, (dss_cons (ds_set (i := 1) sc_are_apart.nd rfl (by first | exact Or.inl rfl | exact Or.inr rfl) (de_lenSc (us := [3]) (own := [("pair", 3)]) rfl sc_are_apart.nd (by rfl) B.b_len (di_seq (dv 0)) (blkOk_by (by rfl)) (by decide) (fun _ _ _ _ _ => (dg_name (i := 3) sc_are_apart.nd rfl (by first | exact Or.inl rfl | exact Or.inr rfl))) (fun _ _ _ _ _ => dts_nil) (fun _ _ _ _ _ => (de_ix d_ix (dv 3) de_int (fun _ _ => rfl)))))
      (dss_cons (ds_set (i := 2) sc_are_apart.nd rfl (by first | exact Or.inl rfl | exact Or.inr rfl) (de_lenSc (us := [3]) (own := [("pair", 3)]) rfl sc_are_apart.nd (by rfl) B.b_len (di_seq (dv 0)) (blkOk_by (by rfl)) (by decide) (fun _ _ _ _ _ => (dg_name (i := 3) sc_are_apart.nd rfl (by first | exact Or.inl rfl | exact Or.inr rfl))) (fun _ _ _ _ _ => dts_nil) (fun _ _ _ _ _ => (de_ix d_ix (dv 3) de_int (fun _ _ => rfl)))))
      (dss_one (ds_ret (de_and (de_cmp (d_eq hu) (dv 1) (de_callB d_len (by rfl) B.b_len (by decide +kernel) (da_cons (dv 0) da_nil)) (nomark _)) (de_one (de_cmp (d_eq hu) (dv 2) (de_callB d_len (by rfl) B.b_len (by decide +kernel) (da_cons (dv 0) da_nil)) (nomark _))))))))⟩, fun args ow KQ KB hl hc => ?_⟩
  obtain ⟨xs, rfl, k0⟩ := hc
  obtain ⟨ps, hps, hl', k⟩ := so_e k0
  obtain rfl := pairsO_e hps
  clear k0
  ac_rfl
  refine compS_pure (fun d => (toP d).1) (by simpa using hl') (fun x hx Y hY => ?_) ?_
  · obtain ⟨p, _, rfl⟩ := List.mem_map.mp hx
    unfold DL.pD; infer_instance; exact hY
  ac_rfl
  refine compS_pure (fun d => (toP d).2) (by simpa using hl') (fun x hx Y hY => ?_) ?_
  · obtain ⟨p, _, rfl⟩ := List.mem_map.mp hx
    unfold DL.pD; infer_instance; exact hY
  ac_rfl
  rw [List.map_map, List.map_map, natcast_dec, natcast_dec]
  show br (decide (distinct (ps.map (·.1)) = ps.length)) (KQ (.d (.bool (decide (distinct (ps.map (·.2)) = ps.length)))) ow) _
  refine br_i (fun h => ?_) fun h => ?_ <;> simpa [apart, h] using k
abbrev s_is_plan : Stmt := topS 11
theorem sc_is_plan : FnScope ["thing", "pair"] ["thing"] (defScope s_is_plan) := ⟨rfl, rfl, rfl, by decide +kernel, rfl, by decide +kernel, by decide +kernel⟩
theorem ok_is_plan {P : Program} {w : World} {K : PySem.W.Frag} {mg : Str → Option Value} {base : Heap} {f : Addr} {fd : FuncData} (F : Fun K "is_plan" "is_plan" s_is_plan f fd) (B : Bl mg) (T : Tc mg) (C_are_apart : Cal P w K mg base false 2 "are_apart" ["pairs"] 1 ct_are_apart) (C_is_pair : Cal P w K mg base false 4 "is_pair" ["thing"] 1 ct_is_pair) :
    FnG P w K mg base false 5 f fd ["thing"] (spOf 1 ct_is_plan) := by
  refine fngx (k := 4) F sc_is_plan ⟨_, fun cdv A outer s H E hr hu hgd => ⟨_, (dss_cons (ds_if (dt_not (dt_val (de_callB d_isaT (by rfl) B.b_isinstance (by decide +kernel) (da_cons (dv 0) (da_cons (de_blt (v := .ty "tuple") (by rfl) B.b_tuple (by decide +kernel) rfl) da_nil))))) (dss_one (ds_ret de_bl)) dss_nil)
      (dss_cons (ds_for (passes_of rfl) rfl (di_seq (dv 0)) (dg_name (i := 1) sc_is_plan.nd rfl (by first | exact Or.inl rfl | exact Or.inr rfl)) (dss_one (ds_if (dt_not (dt_val (de_c C_is_pair hr (by decide) (fun z => nomatch z) (passes_call (takes_of rfl rfl rfl rfl) fun _ _ _ _ h => h) (by rfl) (da_cons (dv 1) da_nil)))) (dss_one (ds_ret de_bl)) dss_nil)))
      (dss_one (ds_ret (de_and (de_c C_are_apart hr (by decide) (fun z => nomatch z) (passes_call (takes_of rfl rfl rfl rfl) fun _ _ _ _ h => h) (by rfl) (da_cons (dv 0) da_nil)) (de_one (de_cmp (d_eq hu) (de_callTy d_list (by rfl) B.b_list (by decide +kernel) (da_cons (dv 0) da_nil)) (de_callB (d_sorted hu) (by rfl) B.b_sorted (by decide +kernel) (da_cons (dv 0) da_nil)) (nomark _))))))))⟩, fun args ow KQ KB hl hc => ?_⟩
  obtain ⟨d, rfl, hd, k⟩ := hc
  infer_instance
  cases ht : d.isTuple with
  | false => rw [plan_tup ht] at k; infer_instance; exact k
  | true =>
    obtain ⟨xs, rfl⟩ := tup_of ht
    have hl' := hd xs rfl
    ac_rfl
    refine loop_all 1 isPairD (by simp) ?_ ?_
    · rintro x hx _ ⟨s, rfl⟩ N h1 h2
      ac_rfl
      refine br_i (fun h => ?_) fun h => ?_
      · have h' : isPairD x = false := by simpa using h
        rw [plan_no (h2 h')] at k; exact k
      · exact h1 (by simpa using h)
    · intro hall s
      obtain ⟨ps, rfl⟩ := pairs_of hall
      ac_rfl
      rw [List.length_map] at hl'
      refine ⟨hl', ?_⟩
      rw [plan_pairs hall] at k
      refine br_i (fun h => ?_) fun h => ?_
      · refine ⟨canSort_pairs (by omega), ?_⟩
        rw [sortD_pD]
        refine ⟨canEq_pairs _ _, ?_⟩
        rw [eqv_pairs]
        simpa [h] using k
      · simpa [h] using k
abbrev s_need_plan : Stmt := topS 12
theorem sc_need_plan : FnScope ["plan"] ["plan"] (defScope s_need_plan) := ⟨rfl, rfl, rfl, by decide +kernel, rfl, by decide +kernel, by decide +kernel⟩
theorem ok_need_plan {P : Program} {w : World} {K : PySem.W.Frag} {mg : Str → Option Value} {base : Heap} {f : Addr} {fd : FuncData} (F : Fun K "need_plan" "need_plan" s_need_plan f fd) (B : Bl mg) (T : Tc mg) {cl : Str → Addr} (X_BadPlan : ErrC K mg "BadPlan" (cl "BadPlan") (cl "PickError")) (C_is_plan : Cal P w K mg base false 5 "is_plan" ["thing"] 1 ct_is_plan) :
    FnG P w K mg base false 6 f fd ["plan"] (spOf 1 (ct_need_plan cl)) := by
  refine fngx (k := 5) F sc_need_plan ⟨_, fun cdv A outer s H E hr hu hgd => ⟨_, (dss_one (ds_if (dt_not (dt_val (de_c C_is_plan hr (by decide) (fun z => nomatch z) (passes_call (takes_of rfl rfl rfl rfl) fun _ _ _ _ h => h) (by rfl) (da_cons (dv 0) da_nil)))) (dss_one (ds_raise rfl (takes_of rfl rfl rfl rfl) X_BadPlan (by rfl))) dss_nil))⟩, fun args ow KQ KB hl hc => ?_⟩
  obtain ⟨d, rfl, hd, k⟩ := hc
  infer_instance
  refine ⟨hd, ?_⟩
  refine br_i (fun h => ?_) fun h => ?_
  · have h' : isPlanD d = false := by simpa using h
    rw [h'] at k
    ac_rfl
    rw [br_f] at k; exact k
  · have h' : isPlanD d = true := by simpa using h
    rw [h'] at k
    ac_rfl
    rw [br_t] at k; exact k
abbrev s_persons_of : Stmt := topS 13
theorem sc_persons_of : FnScope ["plan", "person", "desk"] ["plan"] (defScope s_persons_of) := ⟨rfl, rfl, rfl, by decide +kernel, rfl, by decide +kernel, by decide +kernel⟩
theorem ok_persons_of {P : Program} {w : World} {K : PySem.W.Frag} {mg : Str → Option Value} {base : Heap} {f : Addr} {fd : FuncData} (F : Fun K "persons_of" "persons_of" s_persons_of f fd) (B : Bl mg) (T : Tc mg) {cl : Str → Addr} (C_need_plan : Cal P w K mg base false 6 "need_plan" ["plan"] 1 (ct_need_plan cl)) :
    FnG P w K mg base false 7 f fd ["plan"] (spOf 1 (ct_persons_of cl)) := by
  refine fngx (k := 6) F sc_persons_of ⟨_, fun cdv A outer s H E hr hu hgd => ⟨_, (dss_cons (ds_expr (de_c C_need_plan hr (by decide) (fun z => nomatch z) (passes_call (takes_of rfl rfl rfl rfl) fun _ _ _ _ h => h) (by rfl) (da_cons (dv 0) da_nil)))
      (dss_one (ds_ret (de_callTy d_tup (by rfl) B.b_tuple (by decide +kernel) (da_cons (de_lc (EC := L2.E0) (us := ([1] ++ ([2] ++ []))) (own := [("person", 1), ("desk", 2)]) rfl sc_persons_of.nd (di_seq (dv 0)) (blkOk_by (by rfl)) (by decide) (fun _ _ _ _ _ => (dg_tupK K (n := 2) rfl (dgs_cons (dg_name (i := 1) sc_persons_of.nd rfl (by first | exact Or.inl rfl | exact Or.inr rfl)) (dgs_cons (dg_name (i := 2) sc_persons_of.nd rfl (by first | exact Or.inl rfl | exact Or.inr rfl)) dgs_nil)))) (fun _ _ _ _ _ => dts_nil) (fun _ _ _ _ _ => (dv 1))) da_nil)))))⟩, fun args ow KQ KB hl hc => ?_⟩
  obtain ⟨d, rfl, hd, k⟩ := hc
  infer_instance
  refine ⟨hd, ?_⟩
  cases h : isPlanD d with
  | false =>
    rw [h, br_f] at k
    ac_rfl
    exact k
  | true =>
    obtain ⟨ps, rfl, hp⟩ := plan_of h
    rw [h, br_t, asPlan_m] at k
    have hl8 := Pl.len (m := 8) hp
    unfold plD
    ac_rfl
    refine comp_map (fun d => .int (toP d).1) (by simp; omega) (fun x hx N Y _ hY => ?_) ?_
    · obtain ⟨p, _, rfl⟩ := List.mem_map.mp hx
      unfold DL.pD; ac_rfl; exact hY rfl
    rw [map_firsts]
    ac_rfl
    exact k
abbrev s_hanging : Stmt := topS 15
theorem sc_hanging : FnScope ["pairs", "person", "persons", "desks", "_", "p", "d"] ["pairs", "person"] (defScope s_hanging) := ⟨rfl, rfl, rfl, by decide +kernel, rfl, by decide +kernel, by decide +kernel⟩
theorem ok_hanging {P : Program} {w : World} {K : PySem.W.Frag} {mg : Str → Option Value} {base : Heap} {f : Addr} {fd : FuncData} (F : Fun K "hanging" "hanging" s_hanging f fd) (B : Bl mg) (T : Tc mg) :
    FnG P w K mg base false 2 f fd ["pairs", "person"] (spOf 2 ct_hanging) := by
  refine fngx (k := 1) F sc_hanging ⟨_, fun cdv A outer s H E hr hu hgd => ⟨_, (dss_cons (ds_setO (i := 2) sc_hanging.nd rfl (by first | exact Or.inl rfl | exact Or.inr rfl) (de_disp hu (dps_cons (dv 1) de_bl dps_nil) rfl rfl (fun z => nomatch z) (by decide)))
      (dss_cons (ds_setO (i := 3) sc_hanging.nd rfl (by first | exact Or.inl rfl | exact Or.inr rfl) de_dict0)
      (dss_cons (ds_for (passes_of rfl) rfl (di_rng1 (by rfl) B.b_range (da_cons (de_callB d_len (by rfl) B.b_len (by decide +kernel) (da_cons (dv 0) da_nil)) da_nil)) (dg_name (i := 4) sc_hanging.nd rfl (by first | exact Or.inl rfl | exact Or.inr rfl)) (dss_one (ds_for (passes_of rfl) rfl (di_seq (dv 0)) (dg_tup (n := 2) rfl (dgs_cons (dg_name (i := 5) sc_hanging.nd rfl (by first | exact Or.inl rfl | exact Or.inr rfl)) (dgs_cons (dg_name (i := 6) sc_hanging.nd rfl (by first | exact Or.inl rfl | exact Or.inr rfl)) dgs_nil))) (dss_one (ds_if (DW.dt (dw_or (dt_cmp (d_inA hu) (dv 5) (dv 2) (by rfl)) (dw_or1 (dt_cmp (d_inA hu) (dv 6) (dv 3) (by rfl))))) (dss_cons (ds_put hu (dv 2) (dv 5) de_bl)
      (dss_one (ds_put hu (dv 3) (dv 6) de_bl))) dss_nil)))))
      (dss_one (ds_ret (de_tup (da_cons (de_callTy d_tup (by rfl) B.b_tuple (by decide +kernel) (da_cons (de_callB (d_sortedA hu rfl) (by rfl) B.b_sorted (by decide +kernel) (da_cons (dv 2) da_nil)) da_nil)) (da_cons (de_callTy d_tup (by rfl) B.b_tuple (by decide +kernel) (da_cons (de_callB (d_sortedA hu rfl) (by rfl) B.b_sorted (by decide +kernel) (da_cons (dv 3) da_nil)) da_nil)) da_nil))))))))⟩, fun args ow KQ KB hl hc => ?_⟩
  obtain ⟨qs, a, rfl, q0⟩ := hc
  obtain ⟨ps, hx, hl', q⟩ := so_e q0
  clear q0
  obtain rfl := pairsO_e hx
  ac_rfl
  refine ⟨.inl (.inl fun p hp => by simp at hp; subst hp; rfl), ?_⟩
  ac_rfl
  rw [D1_one, show ([] : List (D × D)) = D1 [] from rfl]
  refine ⟨by omega, ?_⟩
  refine loop_inv (fun k a2 => ∃ xs ys s4 s5 s6, Hs ps a xs ys ∧ (Clo ps xs ys ∨ k ≤ hung ps xs ys) ∧ a2 = ⟨[.d (.tuple (ps.map DL.pD)), .d (.int a), .o ow.length, .o (ow.length + 1), s4, s5, s6], ow ++ [.dc (D1 xs), .dc (D1 ys)], ow.length⟩) ⟨_, _, .un, .un, .un, hs_start ps a, .inr (Nat.zero_le _), by rw [List.append_assoc]; rfl⟩ ?_ ?_
  · rintro _ ⟨xs, ys, s4, s5, s6, hs, hc, rfl⟩
    rw [rng_len] at hc
    have hc : Clo ps xs ys := hc.elim id hung_all
    have hcnt := hs.cnt
    have hle := hung_le ps xs ys
    ac_rfl
    refine ⟨D1_sort (by omega), D1_sort (by omega), ?_⟩
    rw [show (D1 xs).map (fun x => x.1) = xs.map PyData.int from D1_fst xs, show (D1 ys).map (fun x => x.1) = ys.map PyData.int from D1_fst ys, sortD_i, sortD_i]
    exact q _ _ (hs.hg hc)
  · rintro k y _ hy ⟨xs, ys, s4, s5, s6, hs, hc, rfl⟩
    ac_rfl
    refine loop_inv (fun j a2 => ∃ xs' ys' s5 s6, Hs ps a xs' ys' ∧ ((xs' = xs ∧ ys' = ys ∧ Clo (ps.take j) xs ys) ∨ (¬ Clo ps xs ys ∧ hung ps xs ys + 1 ≤ hung ps xs' ys')) ∧ a2 = ⟨[.d (.tuple (ps.map DL.pD)), .d (.int a), .o ow.length, .o (ow.length + 1), .d y, s5, s6], ow ++ [.dc (D1 xs'), .dc (D1 ys')], ow.length⟩) ⟨xs, ys, _, _, hs, .inl ⟨rfl, rfl, fun q hq => by simp at hq⟩, rfl⟩ ?_ ?_
    · rintro _ ⟨xs', ys', s5, s6, hs', hc', rfl⟩
      rw [List.length_map] at hc'
      refine ⟨xs', ys', _, _, _, hs', ?_, rfl⟩
      rcases hc' with ⟨rfl, rfl, h⟩ | ⟨h1, h2⟩
      · rw [List.take_length] at h; exact .inl h
      · exact .inr (by rcases hc with z | z; exact absurd z h1; omega)
    · rintro j z _ hz ⟨xs', ys', s5, s6, hs', hc', rfl⟩
      rw [List.getElem?_map, Option.map_eq_some_iff] at hz
      obtain ⟨⟨p, d⟩, hpd, rfl⟩ := hz
      have hm := List.mem_of_getElem? hpd
      have hcnt := hs'.cnt
      have hle := hung_le ps xs' ys'
      have ht : ps.take (j + 1) = ps.take j ++ [(p, d)] := by rw [List.take_add_one, hpd]; rfl
      have same : ¬ ((p ∈ xs' ∨ d ∈ ys') ∧ ¬ (p ∈ xs' ∧ d ∈ ys')) → (xs' = xs ∧ ys' = ys ∧ Clo (ps.take (j + 1)) xs ys) ∨ (¬ Clo ps xs ys ∧ hung ps xs ys + 1 ≤ hung ps xs' ys') := fun h => by
        rcases hc' with ⟨rfl, rfl, h1⟩ | h1
        · refine .inl ⟨rfl, rfl, fun q hq hc => ?_⟩
          rw [ht] at hq
          rcases List.mem_append.mp hq with z | z
          · exact h1 q z hc
          · simp at z
            subst z
            exact Classical.byContradiction fun n => h ⟨hc, n⟩
        · exact .inr h1
      have fin : (p ∈ xs' ∨ d ∈ ys') → ∃ xs2 ys2 s5 s6, Hs ps a xs2 ys2 ∧ ((xs2 = xs ∧ ys2 = ys ∧ Clo (ps.take (j + 1)) xs ys) ∨ (¬ Clo ps xs ys ∧ hung ps xs ys + 1 ≤ hung ps xs2 ys2)) ∧
          (⟨[.d (.tuple (ps.map DL.pD)), .d (.int a), .o ow.length, .o (ow.length + 1), .d y, .d (.int p), .d (.int d)], ow ++ [.dc (D1 (addI xs' p)), .dc (D1 (addI ys' d))], ow.length⟩ : AS) = ⟨[.d (.tuple (ps.map DL.pD)), .d (.int a), .o ow.length, .o (ow.length + 1), .d y, s5, s6], ow ++ [.dc (D1 xs2), .dc (D1 ys2)], ow.length⟩ := fun c => by
        by_cases n : p ∈ xs' ∧ d ∈ ys'
        · rw [addI_in n.1, addI_in n.2]
          exact ⟨xs', ys', _, _, hs', same (fun z => z.2 n), rfl⟩
        · obtain ⟨h1, h2⟩ := hs'.step (q := (p, d)) hm c n
          refine ⟨_, _, _, _, h1, .inr ?_, rfl⟩
          rcases hc' with ⟨rfl, rfl, _⟩ | ⟨n1, n2⟩
          · exact ⟨fun z => n (z _ hm c), h2⟩
          · exact ⟨n1, Nat.le_trans n2 (Nat.le_trans (Nat.le_succ _) h2)⟩
      rw [show DL.pD (p, d) = PyData.tuple [.int p, .int d] from rfl]
      ac_rfl
      refine ⟨D1_key _ _, ?_⟩
      rw [D1_look]
      refine br_i (fun h => ?_) fun h => ?_
      · have h := of_decide_eq_true h
        refine ⟨⟨D1_key _ _, by rw [D1_len]; omega⟩, ?_⟩
        rw [D1_put]
        ac_rfl
        refine ⟨⟨D1_key _ _, by rw [D1_len]; omega⟩, ?_⟩
        rw [D1_put]
        exact fin (.inl h)
      · have h := of_decide_eq_false h
        refine ⟨D1_key _ _, ?_⟩
        rw [D1_look]
        refine br_i (fun h' => ?_) fun h' => ?_
        · have h' := of_decide_eq_true h'
          refine ⟨⟨D1_key _ _, by rw [D1_len]; omega⟩, ?_⟩
          rw [D1_put]
          ac_rfl
          refine ⟨⟨D1_key _ _, by rw [D1_len]; omega⟩, ?_⟩
          rw [D1_put]
          exact fin (.inr h')
        · have h' := of_decide_eq_false h'
          exact ⟨xs', ys', _, _, hs', same (fun z => z.1.elim h h'), rfl⟩
abbrev s_within : Stmt := topS 16
theorem sc_within : FnScope ["plan", "persons", "pair"] ["plan", "persons"] (defScope s_within) := ⟨rfl, rfl, rfl, by decide +kernel, rfl, by decide +kernel, by decide +kernel⟩
theorem ok_within {P : Program} {w : World} {K : PySem.W.Frag} {mg : Str → Option Value} {base : Heap} {f : Addr} {fd : FuncData} (F : Fun K "within" "within" s_within f fd) (B : Bl mg) (T : Tc mg) :
    FnG P w K mg base false 2 f fd ["plan", "persons"] (spOf 2 ct_within) := by
  refine fngx (k := 1) F sc_within ⟨_, fun cdv A outer s H E hr hu hgd => ⟨_, (dss_one (ds_ret (de_lc (EC := L2.E0) (us := [2]) (own := [("pair", 2)]) rfl sc_within.nd (di_seq (dv 0)) (blkOk_by (by rfl)) (by decide) (fun _ _ _ _ _ => (dg_name (i := 2) sc_within.nd rfl (by first | exact Or.inl rfl | exact Or.inr rfl))) (fun _ _ _ _ _ => (dts_one (dt_cmp (d_in hu) (de_ix d_ix (dv 2) de_int (fun _ _ => rfl)) (dv 1) (by rfl)))) (fun _ _ _ _ _ => (dv 2)))))⟩, fun args ow KQ KB hl hc => ?_⟩
  obtain ⟨qs, ss, rfl, q0⟩ := hc
  obtain ⟨ps, hx, q0⟩ := so_e q0
  obtain ⟨S, hs, ⟨hl1, hl2⟩, q⟩ := so_e q0
  clear q0
  obtain rfl := pairsO_e hx
  obtain rfl : ss = S.map PyData.int := by
    rcases asInts_e (d := .tuple ss) hs with z | z
    · cases z
    · cases z; rfl
  ac_rfl
  refine comp_pure (inS S) (fun d => d) (by simp; omega) (fun x hx N Y hN hY => ?_) ?_
  · obtain ⟨⟨p, d⟩, hm, rfl⟩ := List.mem_map.mp hx
    rw [show DL.pD (p, d) = PyData.tuple [.int p, .int d] from rfl] at hN hY ⊢
    ac_rfl
    refine ⟨canIn_int _ _, ?_⟩
    rw [int_in]
    exact br_i (fun h => hY h) fun h => hN h
  rw [wthn_map]
  ac_rfl
  exact q
abbrev s_kind_of : Stmt := topS 17
theorem sc_kind_of : FnScope ["one", "other", "full", "pair"] ["one", "other"] (defScope s_kind_of) := ⟨rfl, rfl, rfl, by decide +kernel, rfl, by decide +kernel, by decide +kernel⟩
theorem ok_kind_of {P : Program} {w : World} {K : PySem.W.Frag} {mg : Str → Option Value} {base : Heap} {f : Addr} {fd : FuncData} (F : Fun K "kind_of" "kind_of" s_kind_of f fd) (B : Bl mg) (T : Tc mg) :
    FnG P w K mg base false 2 f fd ["one", "other"] (spOf 2 ct_kind_of) := by
  refine fngx (k := 1) F sc_kind_of ⟨_, fun cdv A outer s H E hr hu hgd => ⟨_, (dss_cons (ds_if (dt_cmp (d_eq hu) (dv 0) (dv 1) (nomark _)) (dss_one (ds_ret de_str)) dss_nil)
      (dss_cons (ds_set (i := 2) sc_kind_of.nd rfl (by first | exact Or.inl rfl | exact Or.inr rfl) (de_cmp (d_eq hu) (de_lc (EC := L2.E0) (us := [3]) (own := [("pair", 3)]) rfl sc_kind_of.nd (di_seq (dv 0)) (blkOk_by (by rfl)) (by decide) (fun _ _ _ _ _ => (dg_name (i := 3) sc_kind_of.nd rfl (by first | exact Or.inl rfl | exact Or.inr rfl))) (fun _ _ _ _ _ => dts_nil) (fun _ _ _ _ _ => (de_ix d_ix (dv 3) de_int (fun _ _ => rfl)))) (de_lc (EC := L2.E0) (us := [3]) (own := [("pair", 3)]) rfl sc_kind_of.nd (di_seq (dv 1)) (blkOk_by (by rfl)) (by decide) (fun _ _ _ _ _ => (dg_name (i := 3) sc_kind_of.nd rfl (by first | exact Or.inl rfl | exact Or.inr rfl))) (fun _ _ _ _ _ => dts_nil) (fun _ _ _ _ _ => (de_ix d_ix (dv 3) de_int (fun _ _ => rfl)))) (nomark _)))
      (dss_cons (ds_if (DW.dt (dw_and (dt_val (dv 2)) (dw_and1 (dt_cmp (d_eq hu) (de_callB (d_sorted hu) (by rfl) B.b_sorted (by decide +kernel) (da_cons (de_lc (EC := L2.E0) (us := [3]) (own := [("pair", 3)]) rfl sc_kind_of.nd (di_seq (dv 0)) (blkOk_by (by rfl)) (by decide) (fun _ _ _ _ _ => (dg_name (i := 3) sc_kind_of.nd rfl (by first | exact Or.inl rfl | exact Or.inr rfl))) (fun _ _ _ _ _ => dts_nil) (fun _ _ _ _ _ => (de_ix d_ix (dv 3) de_int (fun _ _ => rfl)))) da_nil)) (de_callB (d_sorted hu) (by rfl) B.b_sorted (by decide +kernel) (da_cons (de_lc (EC := L2.E0) (us := [3]) (own := [("pair", 3)]) rfl sc_kind_of.nd (di_seq (dv 1)) (blkOk_by (by rfl)) (by decide) (fun _ _ _ _ _ => (dg_name (i := 3) sc_kind_of.nd rfl (by first | exact Or.inl rfl | exact Or.inr rfl))) (fun _ _ _ _ _ => dts_nil) (fun _ _ _ _ _ => (de_ix d_ix (dv 3) de_int (fun _ _ => rfl)))) da_nil)) (nomark _))))) (dss_one (ds_ret de_str)) dss_nil)
      (dss_one (ds_ret de_str)))))⟩, fun args ow KQ KB hl hc => ?_⟩
  obtain ⟨qs, rs, rfl, q0⟩ := hc
  obtain ⟨ps, hx, q0⟩ := so_e q0
  obtain ⟨us, hs, ⟨hl1, hl2⟩, q⟩ := so_e q0
  clear q0
  obtain rfl := pairsO_e hx
  obtain rfl := pairsO_e hs
  ac_rfl
  refine ⟨canEq_pairs _ _, ?_⟩
  rw [eqv_pairs]
  refine br_i (fun h => ?_) fun h => ?_
  · have h := of_decide_eq_true h
    unfold kindS at q
    rw [if_pos h] at q
    ac_rfl
    exact q
  · have h := of_decide_eq_false h
    unfold kindS at q
    rw [if_neg h] at q
    ac_rfl
    refine comp_map (fun d => .int (toP d).1) (by simp; omega) (fun x hx N Y _ hY => ?_) ?_
    · obtain ⟨p, _, rfl⟩ := List.mem_map.mp hx
      unfold DL.pD; ac_rfl; exact hY rfl
    rw [map_firsts]
    ac_rfl
    refine comp_map (fun d => .int (toP d).1) (by simp; omega) (fun x hx N Y _ hY => ?_) ?_
    · obtain ⟨p, _, rfl⟩ := List.mem_map.mp hx
      unfold DL.pD; ac_rfl; exact hY rfl
    rw [map_firsts]
    ac_rfl
    refine ⟨canEq_ints _ _, ?_⟩
    rw [eqv_ints]
    ac_rfl
    refine br_i (fun h1 => ?_) fun h1 => ?_
    · have h1 := of_decide_eq_true h1
      refine comp_map (fun d => .int (toP d).2) (by simp; omega) (fun x hx N Y _ hY => ?_) ?_
      · obtain ⟨p, _, rfl⟩ := List.mem_map.mp hx
        unfold DL.pD; ac_rfl; exact hY rfl
      rw [map_seconds]
      ac_rfl
      refine ⟨canSort_ints (by simp; omega), ?_⟩
      rw [sortD_i]
      refine comp_map (fun d => .int (toP d).2) (by simp; omega) (fun x hx N Y _ hY => ?_) ?_
      · obtain ⟨p, _, rfl⟩ := List.mem_map.mp hx
        unfold DL.pD; ac_rfl; exact hY rfl
      rw [map_seconds]
      ac_rfl
      refine ⟨canSort_ints (by simp; omega), ?_⟩
      rw [sortD_i]
      refine ⟨canEq_ints _ _, ?_⟩
      rw [eqv_ints]
      refine br_i (fun h2 => ?_) fun h2 => ?_
      · have h2 := of_decide_eq_true h2
        rw [if_pos ⟨h1, h2⟩] at q
        ac_rfl
        exact q
      · have h2 := of_decide_eq_false h2
        rw [if_neg fun z => h2 z.2] at q
        ac_rfl
        exact q
    · have h1 := of_decide_eq_false h1
      rw [if_neg fun z => h1 z.1] at q
      ac_rfl
      exact q
abbrev s_pieces : Stmt := topS 18
theorem sc_pieces : FnScope ["one", "other", "found", "placed", "pairs", "person", "_", "persons", "desks"] ["one", "other"] (defScope s_pieces) := ⟨rfl, rfl, rfl, by decide +kernel, rfl, by decide +kernel, by decide +kernel⟩
theorem ok_pieces {P : Program} {w : World} {K : PySem.W.Frag} {mg : Str → Option Value} {base : Heap} {f : Addr} {fd : FuncData} (F : Fun K "pieces" "pieces" s_pieces f fd) (B : Bl mg) (T : Tc mg) {cl : Str → Addr} (C_kind_of : Cal P w K mg base false 2 "kind_of" ["one", "other"] 2 ct_kind_of) (C_within : Cal P w K mg base false 2 "within" ["plan", "persons"] 2 ct_within) (C_hanging : Cal P w K mg base false 2 "hanging" ["pairs", "person"] 2 ct_hanging) (C_need_plan : Cal P w K mg base false 6 "need_plan" ["plan"] 1 (ct_need_plan cl)) :
    FnG P w K mg base false 7 f fd ["one", "other"] (spOf 2 (ct_pieces cl)) := by
  refine fngx (k := 6) F sc_pieces ⟨_, fun cdv A outer s H E hr hu hgd => ⟨_, (dss_cons (ds_expr (de_c C_need_plan hr (by decide) (fun z => nomatch z) (passes_call (takes_of rfl rfl rfl rfl) fun _ _ _ _ h => h) (by rfl) (da_cons (dv 0) da_nil)))
      (dss_cons (ds_expr (de_c C_need_plan hr (by decide) (fun z => nomatch z) (passes_call (takes_of rfl rfl rfl rfl) fun _ _ _ _ h => h) (by rfl) (da_cons (dv 1) da_nil)))
      (dss_cons (ds_setO (i := 2) sc_pieces.nd rfl (by first | exact Or.inl rfl | exact Or.inr rfl) (de_lst da_nil))
      (dss_cons (ds_setO (i := 3) sc_pieces.nd rfl (by first | exact Or.inl rfl | exact Or.inr rfl) (de_lst da_nil))
      (dss_cons (ds_set (i := 4) sc_pieces.nd rfl (by first | exact Or.inl rfl | exact Or.inr rfl) (de_op d_add (dv 0) (dv 1)))
      (dss_cons (ds_for (passes_of rfl) rfl (di_seq (de_callB (d_sorted hu) (by rfl) B.b_sorted (by decide +kernel) (da_cons (dv 4) da_nil))) (dg_tup (n := 2) rfl (dgs_cons (dg_name (i := 5) sc_pieces.nd rfl (by first | exact Or.inl rfl | exact Or.inr rfl)) (dgs_cons (dg_name (i := 6) sc_pieces.nd rfl (by first | exact Or.inl rfl | exact Or.inr rfl)) dgs_nil))) (dss_one (ds_if (dt_cmp (d_notin hu) (dv 5) (dv 3) (by rfl)) (dss_cons (ds_asgT (de_c C_hanging hr (by decide) (fun z => nomatch z) (passes_call (takes_of rfl rfl rfl rfl) fun _ _ _ _ h => h) (by rfl) (da_cons (dv 4) (da_cons (dv 5) da_nil))) (dg_tup (n := 2) rfl (dgs_cons (dg_name (i := 7) sc_pieces.nd rfl (by first | exact Or.inl rfl | exact Or.inr rfl)) (dgs_cons (dg_name (i := 8) sc_pieces.nd rfl (by first | exact Or.inl rfl | exact Or.inr rfl)) dgs_nil))))
      (dss_cons (ds_expr (de_bmL PySem.F.slot_list_append PySem.F.type_list_append m_append (dv 2) (da_cons (de_tup (da_cons (dv 7) (da_cons (dv 8) (da_cons (de_c C_kind_of hr (by decide) (fun z => nomatch z) (passes_call (takes_of rfl rfl rfl rfl) fun _ _ _ _ h => h) (by rfl) (da_cons (de_c C_within hr (by decide) (fun z => nomatch z) (passes_call (takes_of rfl rfl rfl rfl) fun _ _ _ _ h => h) (by rfl) (da_cons (dv 0) (da_cons (dv 7) da_nil))) (da_cons (de_c C_within hr (by decide) (fun z => nomatch z) (passes_call (takes_of rfl rfl rfl rfl) fun _ _ _ _ h => h) (by rfl) (da_cons (dv 1) (da_cons (dv 7) da_nil))) da_nil))) da_nil)))) da_nil)))
      (dss_one (ds_expr (de_bmL PySem.F.slot_list_extend PySem.F.type_list_extend m_extend (dv 3) (da_cons (dv 7) da_nil)))))) dss_nil)))
      (dss_one (ds_ret (dv 2)))))))))⟩, fun args ow KQ KB hl hc => ?_⟩
  obtain ⟨d, e, rfl, ⟨hd, he⟩, k⟩ := hc
  infer_instance
  refine ⟨hd, ?_⟩
  cases h : isPlanD d with
  | false => rw [h, br_f] at k; ac_rfl; exact k
  | true =>
    obtain ⟨ps, rfl, hps⟩ := plan_of h
    rw [h, br_t] at k
    ac_rfl
    refine ⟨he, ?_⟩
    cases h' : isPlanD e with
    | false => rw [h', br_f] at k; ac_rfl; exact k
    | true =>
      obtain ⟨us, rfl, hus⟩ := plan_of h'
      rw [h', br_t, asPlan_m, so_s, asPlan_m, so_s] at k
      have l1 := Pl.len (m := 8) hps
      have l2 := Pl.len (m := 8) hus
      ac_rfl
      refine ⟨by omega, ?_⟩
      rw [← List.map_append, List.append_assoc]
      ac_rfl
      have hlen : (ps ++ us).length ≤ 16 := by rw [List.length_append]; omega
      refine ⟨canSort_pairs (by omega), ?_⟩
      rw [sortD_pD]
      have hsl : (sortP (ps ++ us)).length = (ps ++ us).length := (sortP_perm _).length_eq
      refine loop_inv (fun j a2 => ∃ (L : List (List Int × List Int × Str)) (pl : List Int) (s5 s6 s7 s8 : Sl), (∀ e ∈ L, IsPiece ps us e) ∧ L.length ≤ j ∧ pl.length ≤ j * 17 ∧ a2 = ⟨[.d (.tuple (ps.map DL.pD)), .d (.tuple (us.map DL.pD)), .o ow.length, .o (ow.length + 1), .d (.tuple ((ps ++ us).map DL.pD)), s5, s6, s7, s8], ow ++ [.ls (L.map pieceD), .ls (pl.map PyData.int)], ow.length⟩) ⟨[], [], .un, .un, .un, .un, (fun _ z => by cases z), by simp, by simp, rfl⟩ ?_ ?_
      · rintro _ ⟨L, pl, s5, s6, s7, s8, hL, hn, hpl, rfl⟩
        rw [List.length_map, hsl] at hn
        ac_rfl
        exact k L hL (by omega)
      · rintro j y _ hy ⟨L, pl, s5, s6, s7, s8, hL, hn, hpl, rfl⟩
        rw [List.getElem?_map, Option.map_eq_some_iff] at hy
        obtain ⟨⟨p, d⟩, hpd, rfl⟩ := hy
        have hj := (List.getElem?_eq_some_iff.mp hpd).1
        have hm : (p, d) ∈ ps ++ us := (sortP_perm _).mem_iff.mp (List.mem_of_getElem? hpd)
        rw [show DL.pD (p, d) = PyData.tuple [.int p, .int d] from rfl]
        ac_rfl
        refine ⟨canIn_int _ _, ?_⟩
        rw [int_in]
        refine br_i (fun h => ?_) fun h => ?_
        · ac_rfl
          refine ⟨by omega, fun S T hg => ?_⟩
          have hS := hg_len hg
          have hw1 : (wthn ps S).length ≤ ps.length := List.length_filter_le _ _
          have hw2 : (wthn us S).length ≤ us.length := List.length_filter_le _ _
          ac_rfl
          refine ⟨⟨by omega, by omega⟩, ⟨by omega, by omega⟩, ⟨by omega, by omega⟩, by omega, ?_⟩
          ac_rfl
          refine ⟨⟨by omega, by omega⟩, ?_⟩
          refine ⟨L ++ [(S, T, kindS (wthn ps S) (wthn us S))], pl ++ S, _, _, _, _, fun e he => ?_, by rw [List.length_append]; simp; omega, by rw [List.length_append]; omega, by rw [List.map_append (l₁ := L), List.map_append (l₁ := pl)]; rfl⟩
          rcases List.mem_append.mp he with z | z
          · exact hL e z
          · simp at z
            subst z
            exact ⟨p, List.mem_map_of_mem (f := (·.1)) hm, hg, rfl⟩
        · exact ⟨L, pl, _, _, _, _, hL, by omega, by omega, rfl⟩
abbrev s_swapped : Stmt := topS 19
theorem sc_swapped : FnScope ["one", "other", "person", "persons", "_", "stay", "pair"] ["one", "other", "person"] (defScope s_swapped) := ⟨rfl, rfl, rfl, by decide +kernel, rfl, by decide +kernel, by decide +kernel⟩
theorem ok_swapped {P : Program} {w : World} {K : PySem.W.Frag} {mg : Str → Option Value} {base : Heap} {f : Addr} {fd : FuncData} (F : Fun K "swapped" "swapped" s_swapped f fd) (B : Bl mg) (T : Tc mg) {cl : Str → Addr} (X_BadPerson : ErrC K mg "BadPerson" (cl "BadPerson") (cl "PickError")) (C_within : Cal P w K mg base false 2 "within" ["plan", "persons"] 2 ct_within) (C_hanging : Cal P w K mg base false 2 "hanging" ["pairs", "person"] 2 ct_hanging) (C_persons_of : Cal P w K mg base false 7 "persons_of" ["plan"] 1 (ct_persons_of cl)) (C_is_number : Cal P w K mg base false 2 "is_number" ["thing"] 1 ct_is_number) (C_need_plan : Cal P w K mg base false 6 "need_plan" ["plan"] 1 (ct_need_plan cl)) :
    FnG P w K mg base false 8 f fd ["one", "other", "person"] (spOf 3 (ct_swapped cl)) := by
  refine fngx (k := 7) F sc_swapped ⟨_, fun cdv A outer s H E hr hu hgd => ⟨_, (dss_cons (ds_expr (de_c C_need_plan hr (by decide) (fun z => nomatch z) (passes_call (takes_of rfl rfl rfl rfl) fun _ _ _ _ h => h) (by rfl) (da_cons (dv 0) da_nil)))
      (dss_cons (ds_expr (de_c C_need_plan hr (by decide) (fun z => nomatch z) (passes_call (takes_of rfl rfl rfl rfl) fun _ _ _ _ h => h) (by rfl) (da_cons (dv 1) da_nil)))
      (dss_cons (ds_if (DW.dt (dw_or (dt_not (dt_val (de_c C_is_number hr (by decide) (fun z => nomatch z) (passes_call (takes_of rfl rfl rfl rfl) fun _ _ _ _ h => h) (by rfl) (da_cons (dv 2) da_nil)))) (dw_or1 (dt_cmp (d_notin hu) (dv 2) (de_op d_add (de_c C_persons_of hr (by decide) (fun z => nomatch z) (passes_call (takes_of rfl rfl rfl rfl) fun _ _ _ _ h => h) (by rfl) (da_cons (dv 0) da_nil)) (de_c C_persons_of hr (by decide) (fun z => nomatch z) (passes_call (takes_of rfl rfl rfl rfl) fun _ _ _ _ h => h) (by rfl) (da_cons (dv 1) da_nil))) (by rfl))))) (dss_one (ds_raise rfl (takes_of rfl rfl rfl rfl) X_BadPerson (by rfl))) dss_nil)
      (dss_cons (ds_asgT (de_c C_hanging hr (by decide) (fun z => nomatch z) (passes_call (takes_of rfl rfl rfl rfl) fun _ _ _ _ h => h) (by rfl) (da_cons (de_op d_add (dv 0) (dv 1)) (da_cons (dv 2) da_nil))) (dg_tup (n := 2) rfl (dgs_cons (dg_name (i := 3) sc_swapped.nd rfl (by first | exact Or.inl rfl | exact Or.inr rfl)) (dgs_cons (dg_name (i := 4) sc_swapped.nd rfl (by first | exact Or.inl rfl | exact Or.inr rfl)) dgs_nil))))
      (dss_cons (ds_lc (i := 5) (ps_lcD (EC := L2.E0) (us := [6]) (own := [("pair", 6)]) rfl sc_swapped.nd rfl rfl (sw_true rfl rfl rfl (by decide +kernel)) (di_seq (dv 0)) (blkOk_by (by rfl)) (by decide) (fun _ _ _ _ _ => (dg_name (i := 6) sc_swapped.nd rfl (by first | exact Or.inl rfl | exact Or.inr rfl))) (fun _ _ _ _ _ => (dts_one (dt_cmp (d_notin hu) (de_ix d_ix (dv 6) de_int (fun _ _ => rfl)) (dv 3) (by rfl)))) (fun _ _ _ _ _ => (dv 6))))
      (dss_one (ds_ret (de_callTy d_tup (by rfl) B.b_tuple (by decide +kernel) (da_cons (de_callB (d_sorted hu) (by rfl) B.b_sorted (by decide +kernel) (da_cons (de_op d_add (dv 5) (de_c C_within hr (by decide) (fun z => nomatch z) (passes_call (takes_of rfl rfl rfl rfl) fun _ _ _ _ h => h) (by rfl) (da_cons (dv 1) (da_cons (dv 3) da_nil)))) da_nil)) da_nil)))))))))⟩, fun args ow KQ KB hl hc => ?_⟩
  obtain ⟨d, e, p, rfl, ⟨hd, he, hp⟩, k⟩ := hc
  infer_instance
  refine ⟨hd, ?_⟩
  cases h : isPlanD d with
  | false => rw [h, br_f] at k; ac_rfl; exact k
  | true =>
    obtain ⟨ps, rfl, hps⟩ := plan_of h
    rw [h, br_t] at k
    ac_rfl
    refine ⟨he, ?_⟩
    cases h' : isPlanD e with
    | false => rw [h', br_f] at k; ac_rfl; exact k
    | true =>
      obtain ⟨us, rfl, hus⟩ := plan_of h'
      rw [h', br_t, asPlan_m, so_s, asPlan_m, so_s] at k
      have l1 := Pl.len (m := 8) hps
      have l2 := Pl.len (m := 8) hus
      ac_rfl
      cases hn : isNum p with
      | false => rw [hn, br_f] at k; rw [Bool.not_false, br_t]; exact k
      | true =>
        obtain ⟨i, rfl⟩ := isNum_int hn
        rw [hn, br_t, inD_i, so_s] at k
        rw [Bool.not_true, br_f]
        refine ⟨small_plan hps, ?_⟩
        rw [plan_y hps, br_t]
        refine ⟨small_plan hus, ?_⟩
        rw [plan_y hus, br_t]
        refine ⟨by omega, ?_⟩
        rw [← List.map_append]
        refine ⟨canIn_int _ _, ?_⟩
        rw [int_in]
        cases hi : decide (i ∈ ps.map (·.1) ++ us.map (·.1)) with
        | false => rw [hi, br_f] at k; rw [Bool.not_false, br_t]; exact k
        | true =>
          rw [hi, br_t] at k
          rw [Bool.not_true, br_f]
          ac_rfl
          refine ⟨by omega, ?_⟩
          rw [← List.map_append]
          ac_rfl
          refine ⟨by omega, fun S T hg => ?_⟩
          have hS := hg_len hg
          rw [List.length_append] at hS
          ac_rfl
          refine comp_pure (fun d => !inS S d) (fun d => d) (by simp; omega) (fun x hx N Y hN hY => ?_) ?_
          · obtain ⟨⟨p, d⟩, hm, rfl⟩ := List.mem_map.mp hx
            rw [show DL.pD (p, d) = PyData.tuple [.int p, .int d] from rfl] at hN hY ⊢
            ac_rfl
            refine ⟨canIn_int _ _, ?_⟩
            rw [int_in]
            exact br_i (fun h => hY h) fun h => hN h
          rw [stay_map]
          ac_rfl
          refine ⟨⟨by omega, by omega⟩, ?_⟩
          ac_rfl
          have hl5 : (ps.filter fun q => !decide (q.1 ∈ S)).length ≤ ps.length := List.length_filter_le _ _
          have hl6 : (wthn us S).length ≤ us.length := List.length_filter_le _ _
          refine ⟨by omega, ?_⟩
          rw [← List.map_append]
          refine ⟨canSort_pairs (by rw [List.length_append]; omega), ?_⟩
          rw [sortD_pD]
          exact k S T hg
abbrev s_law_pick : Stmt := topS 23
theorem sc_law_pick : FnScope ["state", "several"] ["state", "several"] (defScope s_law_pick) := ⟨rfl, rfl, rfl, by decide +kernel, rfl, by decide +kernel, by decide +kernel⟩
theorem ok_law_pick {P : Program} {w : World} {K : PySem.W.Frag} {mg : Str → Option Value} {base : Heap} {f : Addr} {fd : FuncData} (F : Fun K "_law_pick" "_law_pick" s_law_pick f fd) (B : Bl mg) (T : Tc mg) (C__law_draw : Cal P w K mg base false 2 "_law_draw" ["state", "size_here"] 2 ct_law_draw) :
    FnG P w K mg base false 3 f fd ["state", "several"] (spOf 2 ct_law_pick) := by
  refine fngx (k := 2) F sc_law_pick ⟨_, fun cdv A outer s H E hr hu hgd => ⟨_, (dss_one (ds_ret (de_ix d_ix (dv 1) (de_c C__law_draw hr (by decide) (fun z => nomatch z) (passes_call (takes_of rfl rfl rfl rfl) fun _ _ _ _ h => h) (by rfl) (da_cons (dv 0) (da_cons (de_callB d_len (by rfl) B.b_len (by decide +kernel) (da_cons (dv 1) da_nil)) da_nil))) (fun _ _ => rfl))))⟩, fun args ow KQ KB hl hc => ?_⟩
  obtain ⟨k, x, rfl, q⟩ := hc
  obtain ⟨ds, hx, q⟩ := so_e q
  obtain ⟨t, ht, ⟨h1, h2, h3⟩, q⟩ := so_e q
  ac_rfl
  rw [hx, ht]
  ac_rfl
  refine ⟨⟨?_, by omega, h3⟩, fun r hr => ?_⟩
  · have := List.length_pos_iff.mpr h1; omega
  · have hr' : r < ds.length := by omega
    rw [atI_nat hr']
    infer_instance
    exact q _ (List.getElem_mem hr')
abbrev s_law_mixed : Stmt := topS 24
theorem sc_law_mixed : FnScope ["state", "several", "left", "found"] ["state", "several"] (defScope s_law_mixed) := ⟨rfl, rfl, rfl, by decide +kernel, rfl, by decide +kernel, by decide +kernel⟩
theorem ok_law_mixed {P : Program} {w : World} {K : PySem.W.Frag} {mg : Str → Option Value} {base : Heap} {f : Addr} {fd : FuncData} (F : Fun K "_law_mixed" "_law_mixed" s_law_mixed f fd) (B : Bl mg) (T : Tc mg) (C__law_draw : Cal P w K mg base false 2 "_law_draw" ["state", "size_here"] 2 ct_law_draw) :
    FnG P w K mg base false 3 f fd ["state", "several"] (spOf 2 ct_law_mixed) := by
  refine fngx (k := 2) F sc_law_mixed ⟨_, fun cdv A outer s H E hr hu hgd => ⟨_, (dss_cons (ds_par (i := 2) (j := 3) (b1 := true) (b2 := true) rfl sc_law_mixed.nd rfl rfl (by decide) rfl rfl (da_cons (de_callTy d_list (by rfl) B.b_list (by decide +kernel) (da_cons (dv 1) da_nil)) (da_cons (de_lst da_nil) da_nil)) (by rfl))
      (dss_cons (ds_while (passes_of rfl) (dt_cmp (d_ne hu) (dv 2) (de_lst da_nil) (nomark _)) (dss_one (ds_expr (de_bmL PySem.F.slot_list_append PySem.F.type_list_append m_append (dv 3) (da_cons (de_bmL PySem.F.slot_list_pop PySem.F.type_list_pop m_popAt (dv 2) (da_cons (de_c C__law_draw hr (by decide) (fun z => nomatch z) (passes_call (takes_of rfl rfl rfl rfl) fun _ _ _ _ h => h) (by rfl) (da_cons (dv 0) (da_cons (de_callB d_len (by rfl) B.b_len (by decide +kernel) (da_cons (dv 2) da_nil)) da_nil))) da_nil)) da_nil)))))
      (dss_one (ds_ret (dv 3)))))⟩, fun args ow KQ KB hl hc => ?_⟩
  obtain ⟨k, x, rfl, q⟩ := hc
  obtain ⟨ds, hx, q⟩ := so_e q
  obtain ⟨t, ht, ⟨hl', hp, hb⟩, q⟩ := so_e q
  ac_rfl
  rw [hx]
  ac_rfl
  refine ⟨fun m a => ∃ left found t', m = left.length ∧ (left ++ found).Perm ds ∧ t' + left.length ≤ t + ds.length ∧
    a = ⟨[.o k, .d x, .o ow.length, .o (ow.length + 1)], ow.set k (.st t') ++ [.ls left, .ls found], ow.length⟩, ⟨_, ds, [], t, rfl, by simp, Nat.le_refl _, ?_⟩, ?_⟩
  · rw [set_same_st ht, List.append_assoc]; rfl
  rintro m _ ⟨left, found, t', rfl, hpm, htt, rfl⟩
  have hlen := hpm.length_eq
  rw [List.length_append] at hlen
  ac_rfl
  refine ⟨⟨?_, rfl, Nat.le_trans (Nat.min_le_right _ _) (by decide)⟩, ?_⟩
  · rw [plain_l, plainAll_iff]
    exact fun z hz => plainAll_iff.mp hp z (hpm.mem_iff.mp (List.mem_append_left _ hz))
  cases left with
  | nil =>
    refine ⟨fun h => (by cases h), fun _ => ?_⟩
    ac_rfl
    rw [if_neg (by omega)]
    ac_rfl
    exact q found t' (by simpa using hpm) (by simpa using htt)
  | cons y ys =>
    refine ⟨fun _ => ?_, fun h => (by cases h)⟩
    infer_instance
    simp only [List.length_cons] at hlen htt
    rw [stOf_app (by rw [stOf_set (by rw [ht]; rfl)]; rfl), stOf_set (by rw [ht]; rfl)]
    infer_instance
    refine ⟨⟨by omega, by omega, by omega⟩, fun r hr => ?_⟩
    have hr' : r < (y :: ys).length := by simp only [List.length_cons]; omega
    rw [set_app_st (by rw [stOf_set (by rw [ht]; rfl)]; rfl), List.set_set]
    infer_instance
    rw [ixL_nat (by simpa using hr') (by omega)]
    infer_instance
    rw [List.getElem?_eq_getElem hr']
    infer_instance
    refine ⟨by omega, ys.length, by omega, (y :: ys).eraseIdx r, found ++ [(y :: ys)[r]], t' + 1, ?_, ?_, ?_, rfl⟩
    · rw [List.length_eraseIdx_of_lt hr']; rfl
    · refine List.Perm.trans ?_ hpm
      rw [← List.append_assoc]
      refine List.perm_append_comm.trans ?_
      rw [← List.append_assoc]
      exact (erase_perm hr').append_right found
    · rw [List.length_eraseIdx_of_lt hr']; simp only [List.length_cons]; omega
abbrev s_law_caught : Stmt := topS 25
theorem sc_law_caught : FnScope ["work", "caught", "error"] ["work"] (defScope s_law_caught) := ⟨rfl, rfl, rfl, by decide +kernel, rfl, by decide +kernel, by decide +kernel⟩
abbrev s_law_plan : Stmt := topS 26
theorem sc_law_plan : FnScope ["state", "many", "most", "persons", "desks"] ["state", "many", "most"] (defScope s_law_plan) := ⟨rfl, rfl, rfl, by decide +kernel, rfl, by decide +kernel, by decide +kernel⟩
theorem ok_law_plan {P : Program} {w : World} {K : PySem.W.Frag} {mg : Str → Option Value} {base : Heap} {f : Addr} {fd : FuncData} (F : Fun K "_law_plan" "_law_plan" s_law_plan f fd) (B : Bl mg) (T : Tc mg) (C__law_mixed : Cal P w K mg base false 3 "_law_mixed" ["state", "several"] 2 ct_law_mixed) :
    FnG P w K mg base false 4 f fd ["state", "many", "most"] (spOf 3 ct_law_plan) := by
  refine fngx (k := 3) F sc_law_plan ⟨_, fun cdv A outer s H E hr hu hgd => ⟨_, (dss_cons (ds_par (i := 3) (j := 4) (b1 := false) (b2 := false) rfl sc_law_plan.nd rfl rfl (by decide) rfl rfl (da_cons (de_slice (de_c C__law_mixed hr (by decide) (fun z => nomatch z) (passes_call (takes_of rfl rfl rfl rfl) fun _ _ _ _ h => h) (by rfl) (da_cons (dv 0) (da_cons (de_listRg (pos1 := ⟨0, 0, 0, 0⟩) rfl (by rfl) B.b_list (by rfl) B.b_range (dv 2)) da_nil))) do_none (do_some (dv 1))) (da_cons (de_slice (de_c C__law_mixed hr (by decide) (fun z => nomatch z) (passes_call (takes_of rfl rfl rfl rfl) fun _ _ _ _ h => h) (by rfl) (da_cons (dv 0) (da_cons (de_listRg (pos1 := ⟨0, 0, 0, 0⟩) rfl (by rfl) B.b_list (by rfl) B.b_range (dv 2)) da_nil))) do_none (do_some (dv 1))) da_nil)) (by rfl))
      (dss_one (ds_ret (de_callTy d_tup (by rfl) B.b_tuple (by decide +kernel) (da_cons (de_callB (d_sorted hu) (by rfl) B.b_sorted (by decide +kernel) (da_cons (de_listZip rfl (by rfl) B.b_list (by rfl) B.b_zip (da_cons (dv 3) (da_cons (dv 4) da_nil))) da_nil)) da_nil)))))⟩, fun args ow KQ KB hl hc => ?_⟩
  obtain ⟨k, many, most, rfl, q⟩ := hc
  obtain ⟨t, ht, ⟨h1, h2, h3, h4⟩, q⟩ := so_e q
  obtain ⟨m, rfl⟩ : ∃ m : Nat, most = m := ⟨most.toNat, by omega⟩
  ac_rfl
  simp only [ht, so_s, rng_len, Int.toNat_natCast, range_ups, plain_ints, List.length_map, ups_len]
  refine ⟨by omega, by simp only [true_and, and_true]; omega, fun zs t1 e1 e2 => ⟨by omega, ?_⟩⟩
  infer_instance
  simp only [ht, stOf_set, Option.isSome_some, so_s]
  refine ⟨by first | omega | (simp only [true_and, and_true]; omega), fun ys t2 f1 f2 => ?_⟩
  ac_rfl
  obtain ⟨as, rfl, ha⟩ := ints_of_perm e1
  obtain ⟨bs, rfl, hb⟩ := ints_of_perm f1
  simp only [cut_head _ h1, ← List.map_take, zipD_ints]
  have z := pl_zip ha hb many.toNat
  refine ⟨?_, ?_⟩
  · have := ha.length_eq; rw [ups_len] at this
    simp; omega
  refine ⟨canSort_pairs ?_, ?_⟩
  · have := z.2; rw [sortP_len] at this; omega
  rw [sortD_pD]
  exact q _ t2 z.1 z.2 (by omega)
abbrev s_law_any_plan : Stmt := topS 27
theorem sc_law_any_plan : FnScope ["state", "most"] ["state", "most"] (defScope s_law_any_plan) := ⟨rfl, rfl, rfl, by decide +kernel, rfl, by decide +kernel, by decide +kernel⟩
theorem ok_law_any_plan {P : Program} {w : World} {K : PySem.W.Frag} {mg : Str → Option Value} {base : Heap} {f : Addr} {fd : FuncData} (F : Fun K "_law_any_plan" "_law_any_plan" s_law_any_plan f fd) (B : Bl mg) (T : Tc mg) (C__law_plan : Cal P w K mg base false 4 "_law_plan" ["state", "many", "most"] 3 ct_law_plan) (C__law_draw : Cal P w K mg base false 2 "_law_draw" ["state", "size_here"] 2 ct_law_draw) :
    FnG P w K mg base false 5 f fd ["state", "most"] (spOf 2 ct_law_any_plan) := by
  refine fngx (k := 4) F sc_law_any_plan ⟨_, fun cdv A outer s H E hr hu hgd => ⟨_, (dss_one (ds_ret (de_c C__law_plan hr (by decide) (fun z => nomatch z) (passes_call (takes_of rfl rfl rfl rfl) fun _ _ _ _ h => h) (by rfl) (da_cons (dv 0) (da_cons (de_c C__law_draw hr (by decide) (fun z => nomatch z) (passes_call (takes_of rfl rfl rfl rfl) fun _ _ _ _ h => h) (by rfl) (da_cons (dv 0) (da_cons (de_op d_add (dv 1) de_int) da_nil))) (da_cons (dv 1) da_nil))))))⟩, fun args ow KQ KB hl hc => ?_⟩
  obtain ⟨k, most, rfl, q⟩ := hc
  obtain ⟨t, ht, ⟨h2, h3, h4⟩, q⟩ := so_e q
  ac_rfl
  simp only [ht, so_s]
  refine ⟨⟨by omega, by omega, by omega⟩, fun r hr => ?_⟩
  simp only [stOf_set, ht, Option.isSome_some, so_s]
  refine ⟨⟨by omega, h2, h3, by omega⟩, fun ps t' hp _ ht' => q ps t' hp (by omega)⟩
abbrev s_law_near_plan : Stmt := topS 28
theorem sc_law_near_plan : FnScope ["state", "told", "left", "persons", "desks", "item", "pair"] ["state", "told"] (defScope s_law_near_plan) := ⟨rfl, rfl, rfl, by decide +kernel, rfl, by decide +kernel, by decide +kernel⟩
theorem ok_law_near_plan {P : Program} {w : World} {K : PySem.W.Frag} {mg : Str → Option Value} {base : Heap} {f : Addr} {fd : FuncData} (F : Fun K "_law_near_plan" "_law_near_plan" s_law_near_plan f fd) (B : Bl mg) (T : Tc mg) (C__law_pick : Cal P w K mg base false 3 "_law_pick" ["state", "several"] 2 ct_law_pick) (C__law_draw : Cal P w K mg base false 2 "_law_draw" ["state", "size_here"] 2 ct_law_draw) :
    FnG P w K mg base false 4 f fd ["state", "told"] (spOf 2 ct_law_near_plan) := by
  refine fngx (k := 3) F sc_law_near_plan ⟨_, fun cdv A outer s H E hr hu hgd => ⟨_, (dss_cons (ds_if (dt_cmp (d_eq hu) (dv 1) (de_tup da_nil) (nomark _)) (dss_one (ds_ret (dv 1))) dss_nil)
      (dss_cons (ds_setO (i := 2) sc_law_near_plan.nd rfl (by first | exact Or.inl rfl | exact Or.inr rfl) (de_callTy d_list (by rfl) B.b_list (by decide +kernel) (da_cons (dv 1) da_nil)))
      (dss_cons (ds_expr (de_bmL PySem.F.slot_list_pop PySem.F.type_list_pop m_popAt (dv 2) (da_cons (de_c C__law_draw hr (by decide) (fun z => nomatch z) (passes_call (takes_of rfl rfl rfl rfl) fun _ _ _ _ h => h) (by rfl) (da_cons (dv 0) (da_cons (de_callB d_len (by rfl) B.b_len (by decide +kernel) (da_cons (dv 2) da_nil)) da_nil))) da_nil)))
      (dss_frz 2 (dss_cons (ds_lc (i := 3) (ps_lcD (EC := L2.E0) (us := [5]) (own := [("item", 5)]) rfl sc_law_near_plan.nd rfl rfl (sw_true rfl rfl rfl (by decide +kernel)) (di_rng1 (by rfl) B.b_range (da_cons de_int da_nil)) (blkOk_by (by rfl)) (by decide) (fun _ _ _ _ _ => (dg_name (i := 5) sc_law_near_plan.nd rfl (by first | exact Or.inl rfl | exact Or.inr rfl))) (fun _ _ _ _ _ => (dts_one (dt_cmp (d_notin hu) (dv 5) (de_lc (EC := L2.E0) (us := [6]) (own := [("pair", 6)]) rfl sc_law_near_plan.nd (di_seqK K (dv 2)) (blkOk_by (by rfl)) (by decide) (fun _ _ _ _ _ => (dg_name (i := 6) sc_law_near_plan.nd rfl (by first | exact Or.inl rfl | exact Or.inr rfl))) (fun _ _ _ _ _ => dts_nil) (fun _ _ _ _ _ => (de_ix d_ix (dv 6) de_int (fun _ _ => rfl)))) (by rfl)))) (fun _ _ _ _ _ => (dv 5))))
      (dss_cons (ds_lc (i := 4) (ps_lcD (EC := L2.E0) (us := [5]) (own := [("item", 5)]) rfl sc_law_near_plan.nd rfl rfl (sw_true rfl rfl rfl (by decide +kernel)) (di_rng1 (by rfl) B.b_range (da_cons de_int da_nil)) (blkOk_by (by rfl)) (by decide) (fun _ _ _ _ _ => (dg_name (i := 5) sc_law_near_plan.nd rfl (by first | exact Or.inl rfl | exact Or.inr rfl))) (fun _ _ _ _ _ => (dts_one (dt_cmp (d_notin hu) (dv 5) (de_lc (EC := L2.E0) (us := [6]) (own := [("pair", 6)]) rfl sc_law_near_plan.nd (di_seqK K (dv 2)) (blkOk_by (by rfl)) (by decide) (fun _ _ _ _ _ => (dg_name (i := 6) sc_law_near_plan.nd rfl (by first | exact Or.inl rfl | exact Or.inr rfl))) (fun _ _ _ _ _ => dts_nil) (fun _ _ _ _ _ => (de_ix d_ix (dv 6) de_int (fun _ _ => rfl)))) (by rfl)))) (fun _ _ _ _ _ => (dv 5))))
      (dss_one (ds_ret (de_callTy d_tup (by rfl) B.b_tuple (by decide +kernel) (da_cons (de_callB (d_sorted hu) (by rfl) B.b_sorted (by decide +kernel) (da_cons (de_op d_add (dv 2) (de_lst (da_cons (de_tup (da_cons (de_c C__law_pick hr (by decide) (fun z => nomatch z) (passes_call (takes_of rfl rfl rfl rfl) fun _ _ _ _ h => h) (by rfl) (da_cons (dv 0) (da_cons (dv 3) da_nil))) (da_cons (de_c C__law_pick hr (by decide) (fun z => nomatch z) (passes_call (takes_of rfl rfl rfl rfl) fun _ _ _ _ h => h) (by rfl) (da_cons (dv 0) (da_cons (dv 4) da_nil))) da_nil))) da_nil))) da_nil)) da_nil))))))))))⟩, fun args ow KQ KB hl hc => ?_⟩
  obtain ⟨k, d, rfl, q0⟩ := hc
  obtain ⟨ps, hd, q1⟩ := so_e q0
  obtain ⟨t, ht, ⟨hp, hb⟩, q⟩ := so_e q1
  obtain rfl := asPlan_e hd
  clear q0 q1
  ac_rfl
  refine ⟨canEq_nil ps, ?_⟩
  rw [eqvt_nil]
  refine br_i (fun h => ?_) fun h => ?_
  · have z := q ps t hp rfl (by omega)
    rw [set_same_st ht] at z
    exact z
  have hne := of_decide_eq_false h
  have hl8 := Pl.len (m := 8) hp
  have hpos := List.length_pos_iff.mpr hne
  have hkl := stOf_lt ht
  ac_nf
  refine ⟨by omega, fun r hr => ?_⟩
  rw [ixL_nat (by omega) (by omega)]
  infer_instance
  have hr2 : r < ps.length := by omega
  have hr' : r < (ps.map DL.pD).length := by simpa using hr2
  rw [List.getElem?_eq_getElem hr']
  infer_instance
  rw [erase_map]
  ac_rfl
  refine ⟨by omega, ?_⟩
  rw [range_ups]
  refine comp_pure (onI fun i => !decide (i ∈ (ps.eraseIdx r).map (·.1))) (fun d => d) (by simp [ups_len]) (fun x hx N Y hN hY => ?_) ?_
  · obtain ⟨i, _, rfl⟩ := List.mem_map.mp hx
    ac_rfl
    refine comp_map (fun d => .int (toP d).1) (by simp [List.length_eraseIdx]; split <;> omega) (fun x hx N Y _ hY => ?_) ?_
    · obtain ⟨p, _, rfl⟩ := List.mem_map.mp hx
      unfold DL.pD; ac_rfl; exact hY rfl
    rw [map_firsts]
    ac_rfl
    refine ⟨canIn_ints _ _, ?_⟩
    rw [DL.any_ints]
    exact br_i hY hN
  rw [filter_ints 8 fun i => !decide (i ∈ (ps.eraseIdx r).map (·.1))]
  ac_rfl
  rw [range_ups]
  refine comp_pure (onI fun i => !decide (i ∈ (ps.eraseIdx r).map (·.2))) (fun d => d) (by simp [ups_len]) (fun x hx N Y hN hY => ?_) ?_
  · obtain ⟨i, _, rfl⟩ := List.mem_map.mp hx
    ac_rfl
    refine comp_map (fun d => .int (toP d).2) (by simp [List.length_eraseIdx]; split <;> omega) (fun x hx N Y _ hY => ?_) ?_
    · obtain ⟨p, _, rfl⟩ := List.mem_map.mp hx
      unfold DL.pD; ac_rfl; exact hY rfl
    rw [map_seconds]
    ac_rfl
    refine ⟨canIn_ints _ _, ?_⟩
    rw [DL.any_ints]
    exact br_i hY hN
  rw [filter_ints 8 fun i => !decide (i ∈ (ps.eraseIdx r).map (·.2))]
  have hle : (ps.eraseIdx r).length < 8 := by rw [List.length_eraseIdx_of_lt hr2]; omega
  have n1 := left_over (n := 8) (ns := (ps.eraseIdx r).map (·.1)) (by simpa using hle)
  have n2 := left_over (n := 8) (ns := (ps.eraseIdx r).map (·.2)) (by simpa using hle)
  have f8 : ∀ p : Int → Bool, ((ups 8).filter p).length ≤ 100000 := fun p => Nat.le_trans (List.length_filter_le _ _) (by rw [ups_len]; omega)
  ac_nf
  refine ⟨⟨by simpa using n1, f8 _, by omega⟩, fun x hx => ?_⟩
  ac_nf
  refine ⟨⟨by simpa using n2, f8 _, by omega⟩, fun y hy => ?_⟩
  obtain ⟨i, hi, rfl⟩ := List.mem_map.mp hx
  obtain ⟨j, hj, rfl⟩ := List.mem_map.mp hy
  have z := near_pl hp hr2 hi hj
  ac_rfl
  refine ⟨by omega, ?_⟩
  rw [snoc_pD]
  refine ⟨canSort_pairs (by simp; omega), ?_⟩
  rw [sortD_pD]
  exact q _ _ z.1 z.2 (by omega)
abbrev s_law_bool_pair : Stmt := topS 29
theorem sc_law_bool_pair : FnScope ["state", "pair", "spots_here", "spot", "item"] ["state", "pair"] (defScope s_law_bool_pair) := ⟨rfl, rfl, rfl, by decide +kernel, rfl, by decide +kernel, by decide +kernel⟩
theorem ok_law_bool_pair {P : Program} {w : World} {K : PySem.W.Frag} {mg : Str → Option Value} {base : Heap} {f : Addr} {fd : FuncData} (F : Fun K "_law_bool_pair" "_law_bool_pair" s_law_bool_pair f fd) (B : Bl mg) (T : Tc mg) (C__law_pick : Cal P w K mg base false 3 "_law_pick" ["state", "several"] 2 ct_law_pick) :
    FnG P w K mg base false 4 f fd ["state", "pair"] (spOf 2 ct_law_bool_pair) := by
  refine fngx (k := 3) F sc_law_bool_pair ⟨_, fun cdv A outer s H E hr hu hgd => ⟨_, (dss_cons (ds_lc (i := 2) (ps_lcD (EC := L2.E0) (us := ([3] ++ ([4] ++ []))) (own := [("spot", 3), ("item", 4)]) rfl sc_law_bool_pair.nd rfl rfl (sw_true rfl rfl rfl (by decide +kernel)) (di_enum (by rfl) B.b_enumerate (dv 1)) (blkOk_by (by rfl)) (by decide) (fun _ _ _ _ _ => (dg_tupK K (n := 2) rfl (dgs_cons (dg_name (i := 3) sc_law_bool_pair.nd rfl (by first | exact Or.inl rfl | exact Or.inr rfl)) (dgs_cons (dg_name (i := 4) sc_law_bool_pair.nd rfl (by first | exact Or.inl rfl | exact Or.inr rfl)) dgs_nil)))) (fun _ _ _ _ _ => (dts_one (dt_cmp (d_lt hu) (dv 4) de_int (nomark _)))) (fun _ _ _ _ _ => (dv 3))))
      (dss_cons (ds_if (dt_cmp (d_eq hu) (dv 2) (de_lst da_nil) (nomark _)) (dss_one (ds_ret (de_slice (dv 1) do_none (do_some (de_neg de_int))))) dss_nil)
      (dss_cons (ds_set (i := 3) sc_law_bool_pair.nd rfl (by first | exact Or.inl rfl | exact Or.inr rfl) (de_c C__law_pick hr (by decide) (fun z => nomatch z) (passes_call (takes_of rfl rfl rfl rfl) fun _ _ _ _ h => h) (by rfl) (da_cons (dv 0) (da_cons (dv 2) da_nil))))
      (dss_one (ds_ret (de_op d_add (de_op d_add (de_slice (dv 1) do_none (do_some (dv 3))) (de_tup (da_cons (de_cmp (d_eq hu) (de_ix d_ix (dv 1) (dv 3) (fun _ _ => rfl)) de_int (nomark _)) da_nil))) (de_slice (dv 1) (do_some (de_op d_add (dv 3) de_int)) do_none)))))))⟩, fun args ow KQ KB hl hc => ?_⟩
  obtain ⟨k, d, rfl, q0⟩ := hc
  obtain ⟨⟨a, b⟩, hd, q1⟩ := so_e q0
  obtain ⟨t, ht, hb, q⟩ := so_e q1
  obtain rfl := asPair_eq hd
  clear q0 q1
  unfold DL.pD
  ac_rfl
  rw [enum2]
  refine comp_pure lowI spotI (by simp) (fun x hx N Y hN hY => ?_) ?_
  · simp only [List.mem_cons, List.not_mem_nil, or_false] at hx
    rcases hx with rfl | rfl
    · ac_rfl
      exact br_i hY hN
    · ac_rfl
      exact br_i hY hN
  have bad : ∀ (u v : D) (c : Bool), isPairD (.tuple [.bool c, v]) = false ∧ isPairD (.tuple [u, .bool c]) = false := fun u v c => ⟨rfl, by show (isFrom u 0 7 && false) = false; simp⟩
  have e2 : ∀ (a b : Int), CanEq (.list [.int a, .int b]) (.list []) ∧ CanEq (.list [.int a]) (.list []) ∧ CanEq (.list []) (.list []) := fun a b => ⟨⟨rfl, rfl, Nat.le_trans (Nat.min_le_right _ _) (by decide)⟩, ⟨rfl, rfl, Nat.le_trans (Nat.min_le_right _ _) (by decide)⟩, rfl, rfl, by decide⟩
  have e3 : ∀ (a : D) (xs : List D), PyData.eqv (.list (a :: xs)) (.list []) = false := fun _ _ => rfl
  by_cases h1 : a < 2 <;> by_cases h2 : b < 2 <;> simp only [List.filter_cons, lowI, h1, h2, decide_true, decide_false, if_true, Bool.false_eq_true, if_false, List.filter_nil] <;> ac_rfl
  · refine ⟨(e2 0 1).1, ?_⟩
    rw [e3]
    ac_nf
    refine ⟨by omega, fun d hd => ?_⟩
    simp only [List.mem_cons, List.not_mem_nil, or_false] at hd
    rcases hd with rfl | rfl
    · ac_nf
      exact q _ _ (bad (.int a) (.int b) _).1 (small_len (by simp)) (Nat.le_refl _)
    · ac_nf
      exact q _ _ (bad (.int a) (.int b) _).2 (small_len (by simp)) (Nat.le_refl _)
  · refine ⟨(e2 0 1).2.1, ?_⟩
    rw [e3]
    ac_nf
    refine ⟨by omega, fun d hd => ?_⟩
    simp only [List.mem_cons, List.not_mem_nil, or_false] at hd
    subst hd
    ac_nf
    exact q _ _ (bad (.int a) (.int b) _).1 (small_len (by simp)) (Nat.le_refl _)
  · refine ⟨(e2 1 1).2.1, ?_⟩
    rw [e3]
    ac_nf
    refine ⟨by omega, fun d hd => ?_⟩
    simp only [List.mem_cons, List.not_mem_nil, or_false] at hd
    subst hd
    ac_nf
    exact q _ _ (bad (.int a) (.int b) _).2 (small_len (by simp)) (Nat.le_refl _)
  · refine ⟨(e2 0 0).2.2, ?_⟩
    rw [show PyData.eqv (.list []) (.list []) = true from rfl]
    ac_nf
    have z := q (.tuple [.int a]) t rfl (small_len (by simp)) (by omega)
    rw [set_same_st ht] at z
    exact z
abbrev s_law_bad_plan : Stmt := topS 30
theorem sc_law_bad_plan : FnScope ["state", "told", "spot", "pair", "other", "some", "item"] ["state"] (defScope s_law_bad_plan) := ⟨rfl, rfl, rfl, by decide +kernel, rfl, by decide +kernel, by decide +kernel⟩
theorem ok_law_bad_plan {P : Program} {w : World} {K : PySem.W.Frag} {mg : Str → Option Value} {base : Heap} {f : Addr} {fd : FuncData} (F : Fun K "_law_bad_plan" "_law_bad_plan" s_law_bad_plan f fd) (B : Bl mg) (T : Tc mg) (C__law_pick : Cal P w K mg base false 3 "_law_pick" ["state", "several"] 2 ct_law_pick) (C__law_bool_pair : Cal P w K mg base false 4 "_law_bool_pair" ["state", "pair"] 2 ct_law_bool_pair) (C__law_draw : Cal P w K mg base false 2 "_law_draw" ["state", "size_here"] 2 ct_law_draw) (C__law_plan : Cal P w K mg base false 4 "_law_plan" ["state", "many", "most"] 3 ct_law_plan) :
    FnG P w K mg base false 5 f fd ["state"] (spOf 1 ct_law_bad_plan) := by
  refine fngx (k := 4) F sc_law_bad_plan ⟨_, fun cdv A outer s H E hr hu hgd => ⟨_, (dss_cons (ds_set (i := 1) sc_law_bad_plan.nd rfl (by first | exact Or.inl rfl | exact Or.inr rfl) (de_c C__law_plan hr (by decide) (fun z => nomatch z) (passes_call (takes_of rfl rfl rfl rfl) fun _ _ _ _ h => h) (by rfl) (da_cons (dv 0) (da_cons (de_op d_add de_int (de_c C__law_draw hr (by decide) (fun z => nomatch z) (passes_call (takes_of rfl rfl rfl rfl) fun _ _ _ _ h => h) (by rfl) (da_cons (dv 0) (da_cons de_int da_nil)))) (da_cons de_int da_nil)))))
      (dss_cons (ds_set (i := 2) sc_law_bad_plan.nd rfl (by first | exact Or.inl rfl | exact Or.inr rfl) (de_c C__law_draw hr (by decide) (fun z => nomatch z) (passes_call (takes_of rfl rfl rfl rfl) fun _ _ _ _ h => h) (by rfl) (da_cons (dv 0) (da_cons (de_callB d_len (by rfl) B.b_len (by decide +kernel) (da_cons (dv 1) da_nil)) da_nil))))
      (dss_cons (ds_par (i := 3) (j := 4) (b1 := false) (b2 := false) rfl sc_law_bad_plan.nd rfl rfl (by decide) rfl rfl (da_cons (de_ix d_ix (dv 1) (dv 2) (fun _ _ => rfl)) (da_cons (de_ix d_ix (dv 1) (de_op d_sub (dv 2) de_int) (fun _ _ => rfl)) da_nil)) (by rfl))
      (dss_cons (ds_lc (i := 5) (ps_lcD (EC := L2.E0) (us := [6]) (own := [("item", 6)]) rfl sc_law_bad_plan.nd rfl rfl (sw_true rfl rfl rfl (by decide +kernel)) (di_seq (de_lst (da_cons (de_tup (da_cons (de_ix d_ix (dv 3) de_int (fun _ _ => rfl)) (da_cons de_int da_nil))) (da_cons (de_tup (da_cons (de_neg de_int) (da_cons (de_ix d_ix (dv 3) de_int (fun _ _ => rfl)) da_nil))) (da_cons (de_callTy d_list (by rfl) B.b_list (by decide +kernel) (da_cons (dv 3) da_nil)) (da_cons (de_op d_add (dv 3) (de_tup (da_cons de_int da_nil))) (da_cons de_non da_nil))))))) (blkOk_by (by rfl)) (by decide) (fun _ _ _ _ _ => (dg_name (i := 6) sc_law_bad_plan.nd rfl (by first | exact Or.inl rfl | exact Or.inr rfl))) (fun _ _ _ _ _ => dts_nil) (fun _ _ _ _ _ => (de_op (d_addK K) (de_op (d_addK K) (de_sliceK K (dv 1) do_none (do_some (dv 2))) (de_tup (da_cons (dv 6) da_nil))) (de_sliceK K (dv 1) (do_some (de_op (d_addK K) (dv 2) de_int)) do_none)))))
      (dss_cons (ds_setO (i := 5) sc_law_bad_plan.nd rfl (by first | exact Or.inl rfl | exact Or.inr rfl) (de_op d_add (dv 5) (de_lst (da_cons (de_rev (dv 1)) (da_cons (de_op d_add (dv 1) (de_slice (dv 1) (do_some (de_neg de_int)) do_none)) (da_cons (de_callTy d_list (by rfl) B.b_list (by decide +kernel) (da_cons (dv 1) da_nil)) (da_cons de_non (da_cons de_int (da_cons de_str (da_cons (de_lk de_dict0) (da_cons (de_tup (da_cons de_int (da_cons de_int da_nil))) da_nil)))))))))))
      (dss_cons (ds_expr (de_bmL PySem.F.slot_list_append PySem.F.type_list_append m_append (dv 5) (da_cons (de_callTy d_tup (by rfl) B.b_tuple (by decide +kernel) (da_cons (de_callB (d_sorted hu) (by rfl) B.b_sorted (by decide +kernel) (da_cons (de_op d_add (de_op d_add (de_slice (dv 1) do_none (do_some (dv 2))) (de_slice (dv 1) (do_some (de_op d_add (dv 2) de_int)) do_none)) (de_tup (da_cons (de_tup (da_cons (de_ix d_ix (dv 3) de_int (fun _ _ => rfl)) (da_cons (de_ix d_ix (dv 4) de_int (fun _ _ => rfl)) da_nil))) da_nil))) da_nil)) da_nil)) da_nil)))
      (dss_one (ds_ret (de_c C__law_pick hr (by decide) (fun z => nomatch z) (passes_call (takes_of rfl rfl rfl rfl) fun _ _ _ _ h => h) (by rfl) (da_cons (dv 0) (da_cons (de_op d_add (dv 5) (de_lst (da_cons (de_op d_add (de_op d_add (de_slice (dv 1) do_none (do_some (dv 2))) (de_tup (da_cons (de_c C__law_bool_pair hr (by decide) (fun z => nomatch z) (passes_call (takes_of rfl rfl rfl rfl) fun _ _ _ _ h => h) (by rfl) (da_cons (dv 0) (da_cons (dv 3) da_nil))) da_nil))) (de_slice (dv 1) (do_some (de_op d_add (dv 2) de_int)) do_none)) da_nil))) da_nil)))))))))))⟩, fun args ow KQ KB hl hc => ?_⟩
  obtain ⟨k, rfl, q0⟩ := hc
  obtain ⟨t, ht, hb, q⟩ := so_e q0
  clear q0
  ac_nf
  refine ⟨by omega, fun r hr => ⟨by omega, fun ps t1 hp hlp ht1 => ?_⟩⟩
  have hn : ps.length = 2 + r := by omega
  ac_nf
  refine ⟨by omega, fun s hs => ?_⟩
  have hs' : s < ps.length := by omega
  have hi0 : atI (ps.map DL.pD) (s : Int) = some (.tuple [.int ps[s].1, .int ps[s].2]) := by rw [DL.atI_nat (by simpa using hs')]; simp [DL.pD]
  obtain ⟨o, ho, hne, hi1⟩ : ∃ (o : Nat) (ho : o < ps.length), o ≠ s ∧ atI (ps.map DL.pD) ((s : Int) - 1) = some (.tuple [.int ps[o].1, .int ps[o].2]) := by
    by_cases h0 : s = 0
    · refine ⟨ps.length - 1, by omega, by omega, ?_⟩
      subst h0
      rw [atI_neg (by omega) (by simp; omega), List.getD_eq_getElem?_getD, List.length_map]
      have e : (((0 : Nat) : Int) - 1 + (ps.length : Int)).toNat = ps.length - 1 := by omega
      rw [e, List.getElem?_map, List.getElem?_eq_getElem (by omega)]
      rfl
    · refine ⟨s - 1, by omega, by omega, ?_⟩
      have e : ((s : Int) - 1) = ((s - 1 : Nat) : Int) := by omega
      rw [e, DL.atI_nat (by simp; omega)]
      simp [DL.pD]
  have hc0 : DL.cutD (ps.map DL.pD) none (some (s : Int)) = (ps.take s).map DL.pD := by rw [DL.cut_head _ (by omega), ← List.map_take]; rfl
  have hc1 : DL.cutD (ps.map DL.pD) (some ((s : Int) + 1)) none = (ps.drop (s + 1)).map DL.pD := by
    rw [DL.cut_tail _ (by omega), ← List.map_drop]; congr 2
  have hcl : DL.cutD (ps.map DL.pD) (some (-1)) none = (ps.map DL.pD).drop (ps.length - 1) := by rw [DL.cut_last, List.length_map]
  have l0 : (ps.take s).length = s := by simp; omega
  have l1 : (ps.drop (s + 1)).length = ps.length - (s + 1) := by simp
  ac_rfl
  rw [hi0]
  ac_rfl
  rw [hi1]
  ac_rfl
  refine comp_map (fun d => .tuple ((ps.take s).map DL.pD ++ [d] ++ (ps.drop (s + 1)).map DL.pD)) (by simp) (fun x hx N Y _ hY => ?_) ?_
  · ac_rfl
    rw [hc0]
    ac_rfl
    refine ⟨by omega, ?_⟩
    rw [hc1]
    ac_rfl
    refine ⟨by omega, hY rfl⟩
  ac_rfl
  rw [hcl]
  refine ⟨by rw [List.length_drop, List.length_map]; omega, ?_⟩
  ac_nf
  rw [hc0]
  ac_rfl
  rw [hc1]
  ac_nf
  rw [mid_pD]
  refine ⟨by omega, by omega, canSort_pairs (by rw [List.length_append, List.length_append, l0, l1]; simp; omega), ?_⟩
  ac_nf
  rw [hc0, hc1]
  ac_nf
  refine ⟨by omega, fun z t2 hz hzs ht2 => ?_⟩
  ac_nf
  refine ⟨by omega, by omega, by omega, fun d hd => ?_⟩
  have hW : ¬ ((ps.take s ++ ps.drop (s + 1) ++ [(ps[s].1, ps[o].2)]).map (·.2)).Nodup := fun hn => by
    rw [List.map_append, List.nodup_append] at hn
    refine hn.2.2 ps[o].2 ?_ ps[o].2 (by simp) rfl
    rw [← List.eraseIdx_eq_take_drop_succ]
    exact List.mem_map_of_mem (List.mem_eraseIdx_iff_getElem.mpr ⟨o, ho, hne, rfl⟩)
  have smq : ∀ (l : List (Int × Int)), ∀ y ∈ l.map DL.pD, SmallP y := fun l y hy => by
    obtain ⟨p, _, rfl⟩ := List.mem_map.mp hy
    exact small_pD p
  have sm : ∀ u : D, SmallP u → SmallB (.tuple ((ps.take s).map DL.pD ++ [u] ++ (ps.drop (s + 1)).map DL.pD)) := fun u hu => smallB_of (by simp; omega) fun y hy => by
    simp only [List.mem_append, List.mem_cons, List.not_mem_nil, or_false] at hy
    rcases hy with (hy | rfl) | hy
    · exact smq _ y hy
    · exact hu
    · exact smq _ y hy
  have go : isPlanD d = false ∧ SmallB d := by
    simp only [List.mem_cons, List.not_mem_nil, or_false] at hd
    rcases hd with rfl | rfl | rfl | rfl | rfl | rfl | rfl | rfl | rfl | rfl | rfl | rfl | rfl | rfl | rfl
    · exact ⟨bad_mid (by simp [isPair_two, isFrom]), sm _ (small_len (by simp))⟩
    · exact ⟨bad_mid (by simp [isPair_two, isFrom]), sm _ (small_len (by simp))⟩
    · exact ⟨bad_mid rfl, sm _ (small_tup rfl)⟩
    · exact ⟨bad_mid rfl, sm _ (small_len (by simp))⟩
    · exact ⟨bad_mid rfl, sm _ (small_tup rfl)⟩
    · exact ⟨bad_rev hp (by omega), by rw [← List.map_reverse]; exact small_pairs (by simp; omega)⟩
    · exact ⟨bad_twice (by omega), by rw [← List.map_drop, ← List.map_append]; exact small_pairs (by simp; omega)⟩
    · exact ⟨rfl, smallB_tup rfl⟩
    · exact ⟨rfl, smallB_tup rfl⟩
    · exact ⟨rfl, smallB_tup rfl⟩
    · exact ⟨rfl, smallB_tup rfl⟩
    · exact ⟨rfl, smallB_tup rfl⟩
    · exact ⟨rfl, smallB_of (by simp) fun y hy => by
        simp only [List.mem_cons, List.not_mem_nil, or_false] at hy
        rcases hy with rfl | rfl <;> exact small_tup rfl⟩
    · exact ⟨bad_desk hW, by rw [sortD_pD]; exact small_pairs (by rw [sortP_len]; simp; omega)⟩
    · exact ⟨bad_mid hz, sm _ hzs⟩
  exact q d _ go.1 go.2 (by omega)
abbrev s_law_two_plans : Stmt := topS 31
theorem sc_law_two_plans : FnScope ["state", "way", "wide", "one", "many", "persons", "desks", "pair", "desk"] ["state"] (defScope s_law_two_plans) := ⟨rfl, rfl, rfl, by decide +kernel, rfl, by decide +kernel, by decide +kernel⟩
theorem ok_law_two_plans {P : Program} {w : World} {K : PySem.W.Frag} {mg : Str → Option Value} {base : Heap} {f : Addr} {fd : FuncData} (F : Fun K "_law_two_plans" "_law_two_plans" s_law_two_plans f fd) (B : Bl mg) (T : Tc mg) (C__law_any_plan : Cal P w K mg base false 5 "_law_any_plan" ["state", "most"] 2 ct_law_any_plan) (C__law_mixed : Cal P w K mg base false 3 "_law_mixed" ["state", "several"] 2 ct_law_mixed) (C__law_plan : Cal P w K mg base false 4 "_law_plan" ["state", "many", "most"] 3 ct_law_plan) (C__law_near_plan : Cal P w K mg base false 4 "_law_near_plan" ["state", "told"] 2 ct_law_near_plan) (C__law_draw : Cal P w K mg base false 2 "_law_draw" ["state", "size_here"] 2 ct_law_draw) :
    FnG P w K mg base false 6 f fd ["state"] (spOf 1 ct_law_two_plans) := by
  refine fngx (k := 5) F sc_law_two_plans ⟨_, fun cdv A outer s H E hr hu hgd => ⟨_, (dss_cons (ds_par (i := 1) (j := 2) (b1 := false) (b2 := false) rfl sc_law_two_plans.nd rfl rfl (by decide) rfl rfl (da_cons (de_c C__law_draw hr (by decide) (fun z => nomatch z) (passes_call (takes_of rfl rfl rfl rfl) fun _ _ _ _ h => h) (by rfl) (da_cons (dv 0) (da_cons de_int da_nil))) (da_cons (de_op d_add de_int (de_c C__law_draw hr (by decide) (fun z => nomatch z) (passes_call (takes_of rfl rfl rfl rfl) fun _ _ _ _ h => h) (by rfl) (da_cons (dv 0) (da_cons de_int da_nil)))) da_nil)) (by rfl))
      (dss_cons (ds_if (dt_cmp (d_eq hu) (dv 1) de_int (nomark _)) (dss_cons (ds_set (i := 4) sc_law_two_plans.nd rfl (by first | exact Or.inl rfl | exact Or.inr rfl) (de_op d_add de_int (de_c C__law_draw hr (by decide) (fun z => nomatch z) (passes_call (takes_of rfl rfl rfl rfl) fun _ _ _ _ h => h) (by rfl) (da_cons (dv 0) (da_cons (de_op d_sub (dv 2) de_int) da_nil)))))
      (dss_cons (ds_par (i := 5) (j := 6) (b1 := false) (b2 := false) rfl sc_law_two_plans.nd rfl rfl (by decide) rfl rfl (da_cons (de_slice (de_c C__law_mixed hr (by decide) (fun z => nomatch z) (passes_call (takes_of rfl rfl rfl rfl) fun _ _ _ _ h => h) (by rfl) (da_cons (dv 0) (da_cons (de_listRg (pos1 := ⟨0, 0, 0, 0⟩) rfl (by rfl) B.b_list (by rfl) B.b_range de_int) da_nil))) do_none (do_some (dv 4))) (da_cons (de_slice (de_c C__law_mixed hr (by decide) (fun z => nomatch z) (passes_call (takes_of rfl rfl rfl rfl) fun _ _ _ _ h => h) (by rfl) (da_cons (dv 0) (da_cons (de_listRg (pos1 := ⟨0, 0, 0, 0⟩) rfl (by rfl) B.b_list (by rfl) B.b_range de_int) da_nil))) do_none (do_some (dv 4))) da_nil)) (by rfl))
      (dss_one (ds_ret (de_tup (da_cons (de_callTy d_tup (by rfl) B.b_tuple (by decide +kernel) (da_cons (de_callB (d_sorted hu) (by rfl) B.b_sorted (by decide +kernel) (da_cons (de_listZip rfl (by rfl) B.b_list (by rfl) B.b_zip (da_cons (dv 5) (da_cons (dv 6) da_nil))) da_nil)) da_nil)) (da_cons (de_callTy d_tup (by rfl) B.b_tuple (by decide +kernel) (da_cons (de_callB (d_sorted hu) (by rfl) B.b_sorted (by decide +kernel) (da_cons (de_listZip rfl (by rfl) B.b_list (by rfl) B.b_zip (da_cons (dv 5) (da_cons (de_op d_add (de_slice (dv 6) (do_some de_int) do_none) (de_slice (dv 6) do_none (do_some de_int))) da_nil))) da_nil)) da_nil)) da_nil))))))) dss_nil)
      (dss_cons (ds_set (i := 3) sc_law_two_plans.nd rfl (by first | exact Or.inl rfl | exact Or.inr rfl) (de_c C__law_any_plan hr (by decide) (fun z => nomatch z) (passes_call (takes_of rfl rfl rfl rfl) fun _ _ _ _ h => h) (by rfl) (da_cons (dv 0) (da_cons (dv 2) da_nil))))
      (dss_cons (ds_if (dt_cmp (d_eq hu) (dv 1) de_int (nomark _)) (dss_one (ds_ret (de_tup (da_cons (dv 3) (da_cons (de_c C__law_near_plan hr (by decide) (fun z => nomatch z) (passes_call (takes_of rfl rfl rfl rfl) fun _ _ _ _ h => h) (by rfl) (da_cons (dv 0) (da_cons (de_c C__law_near_plan hr (by decide) (fun z => nomatch z) (passes_call (takes_of rfl rfl rfl rfl) fun _ _ _ _ h => h) (by rfl) (da_cons (dv 0) (da_cons (dv 3) da_nil))) da_nil))) da_nil))))) dss_nil)
      (dss_cons (ds_if (dt_cmp (d_eq hu) (dv 1) de_int (nomark _)) (dss_one (ds_ret (de_tup (da_cons (dv 3) (da_cons (de_c C__law_plan hr (by decide) (fun z => nomatch z) (passes_call (takes_of rfl rfl rfl rfl) fun _ _ _ _ h => h) (by rfl) (da_cons (dv 0) (da_cons (de_callB d_len (by rfl) B.b_len (by decide +kernel) (da_cons (dv 3) da_nil)) (da_cons (dv 2) da_nil)))) da_nil))))) dss_nil)
      (dss_cons (ds_if (dt_cmp (d_eq hu) (dv 1) de_int (nomark _)) (dss_cons (ds_set (i := 6) sc_law_two_plans.nd rfl (by first | exact Or.inl rfl | exact Or.inr rfl) (de_c C__law_mixed hr (by decide) (fun z => nomatch z) (passes_call (takes_of rfl rfl rfl rfl) fun _ _ _ _ h => h) (by rfl) (da_cons (dv 0) (da_cons (de_lc (EC := L2.E0) (us := [7]) (own := [("pair", 7)]) rfl sc_law_two_plans.nd (di_seq (dv 3)) (blkOk_by (by rfl)) (by decide) (fun _ _ _ _ _ => (dg_name (i := 7) sc_law_two_plans.nd rfl (by first | exact Or.inl rfl | exact Or.inr rfl))) (fun _ _ _ _ _ => dts_nil) (fun _ _ _ _ _ => (de_ix d_ix (dv 7) de_int (fun _ _ => rfl)))) da_nil))))
      (dss_one (ds_ret (de_tup (da_cons (dv 3) (da_cons (de_callTy d_tup (by rfl) B.b_tuple (by decide +kernel) (da_cons (de_lc (EC := L2.E0) (us := ([7] ++ ([8] ++ []))) (own := [("pair", 7), ("desk", 8)]) rfl sc_law_two_plans.nd (di_zip (by rfl) B.b_zip (da_cons (dv 3) (da_cons (dv 6) da_nil))) (blkOk_by (by rfl)) (by decide) (fun _ _ _ _ _ => (dg_tupK K (n := 2) rfl (dgs_cons (dg_name (i := 7) sc_law_two_plans.nd rfl (by first | exact Or.inl rfl | exact Or.inr rfl)) (dgs_cons (dg_name (i := 8) sc_law_two_plans.nd rfl (by first | exact Or.inl rfl | exact Or.inr rfl)) dgs_nil)))) (fun _ _ _ _ _ => dts_nil) (fun _ _ _ _ _ => (de_tup (da_cons (de_ix d_ix (dv 7) de_int (fun _ _ => rfl)) (da_cons (dv 8) da_nil))))) da_nil)) da_nil)))))) dss_nil)
      (dss_one (ds_ret (de_tup (da_cons (dv 3) (da_cons (de_c C__law_any_plan hr (by decide) (fun z => nomatch z) (passes_call (takes_of rfl rfl rfl rfl) fun _ _ _ _ h => h) (by rfl) (da_cons (dv 0) (da_cons (dv 2) da_nil))) da_nil)))))))))))⟩, fun args ow KQ KB hl hc => ?_⟩
  obtain ⟨k, rfl, q0⟩ := hc
  obtain ⟨t, ht, hb, q⟩ := so_e q0
  clear q0
  ac_nf
  refine ⟨by omega, fun r hr => ⟨by omega, fun w hw => ?_⟩⟩
  have ew : (2 + (w : Int)) = ((2 + w : Nat) : Int) := by omega
  have e8 : rangeD 0 8 = (ups 8).map PyData.int := range_ups 8
  ac_nf
  refine br_i (fun h => ?_) fun h => ?_
  · refine ⟨by omega, fun u hu => ?_⟩
    ac_nf
    rw [e8]
    refine ⟨⟨plain_ints _, by omega⟩, fun zs t1 e1 f1 => ⟨⟨plain_ints _, by omega⟩, fun ys t2 e2 f2 => ?_⟩⟩
    obtain ⟨as, rfl, ha⟩ := ints_of_perm e1
    obtain ⟨bs, rfl, hb2⟩ := ints_of_perm e2
    have ma : ∀ x ∈ as, 0 ≤ x ∧ x < 8 := fun x hx => by have := mem_ups.mp (ha.mem_iff.mp hx); omega
    have mb : ∀ x ∈ bs, 0 ≤ x ∧ x < 8 := fun x hx => by have := mem_ups.mp (hb2.mem_iff.mp hx); omega
    have la : as.length = 8 := by rw [ha.length_eq, ups_len]
    have lb : bs.length = 8 := by rw [hb2.length_eq, ups_len]
    have na : as.Nodup := ha.nodup_iff.mpr (ups_nodup 8)
    have nb : bs.Nodup := hb2.nodup_iff.mpr (ups_nodup 8)
    have hm : (0 : Int) ≤ 2 + (u : Int) := by omega
    ac_nf
    simp only [DL.cut_head _ hm, DL.cut_head _ (show (0:Int) ≤ 1 by decide), DL.cut_tail _ (show (0:Int) ≤ 1 by decide), ← List.map_take, ← List.map_drop, ← List.map_append, DL.zipD_ints]
    have e2 : (2 + (u : Int)).toNat = 2 + u := by omega
    rw [e2]
    have rp := rot_perm (bs.take (2 + u))
    have p1 := pl_zipG (na.sublist (List.take_sublist (2 + u) as)) (nb.sublist (List.take_sublist (2 + u) bs)) (fun x hx => ma x (List.mem_of_mem_take hx)) (fun x hx => mb x (List.mem_of_mem_take hx)) (by simp [la, lb])
    have p2 := pl_zipG (na.sublist (List.take_sublist (2 + u) as)) (rp.nodup_iff.mpr (nb.sublist (List.take_sublist (2 + u) bs))) (fun x hx => ma x (List.mem_of_mem_take hx)) (fun x hx => mb x (List.mem_of_mem_take (rp.mem_iff.mp hx))) (by rw [rp.length_eq]; simp [la, lb])
    have c1 : ((as.take (2 + u)).zip (bs.take (2 + u))).length ≤ 100000 := by rw [List.length_zip, List.length_take]; omega
    have c2 : ((as.take (2 + u)).zip ((bs.take (2 + u)).drop 1 ++ (bs.take (2 + u)).take 1)).length ≤ 100000 := by rw [List.length_zip, List.length_take]; omega
    refine ⟨by simp; omega, canSort_pairs c1, by simp; omega, by simp; omega, canSort_pairs c2, ?_⟩
    rw [sortD_pD, sortD_pD]
    exact q _ _ t2 p1 p2 (by omega)
  · ac_nf
    refine ⟨⟨by omega, by omega, by omega⟩, fun ps t1 hp ht1 => ?_⟩
    have hp8 : Pl 8 ps := ⟨fun p hm => by have := hp.rng p hm; omega, hp.2, hp.3⟩
    have l8 := Pl.len (m := 8) hp8
    ac_nf
    refine br_i (fun h => ?_) fun h => ?_
    · ac_nf
      refine ⟨⟨hp8, by omega⟩, fun qs t2 hq _ ht2 => ⟨⟨hq, by omega⟩, fun us t3 hu3 _ ht3 => ?_⟩⟩
      exact q _ _ t3 hp8 hu3 (by omega)
    · ac_nf
      refine br_i (fun h => ?_) fun h => ?_
      · ac_nf
        refine ⟨⟨by omega, by omega, by omega⟩, fun us t2 hu2 _ ht2 => ?_⟩
        exact q _ _ t2 hp8 ⟨fun p hm => by have := hu2.rng p hm; omega, hu2.2, hu2.3⟩ (by omega)
      · ac_nf
        refine br_i (fun h => ?_) fun h => ?_
        · ac_nf
          refine comp_map (fun d => .int (toP d).2) (by simp; omega) (fun x hx N Y _ hY => ?_) ?_
          · obtain ⟨p, _, rfl⟩ := List.mem_map.mp hx
            unfold DL.pD; ac_nf; exact hY rfl
          rw [map_seconds]
          ac_nf
          refine ⟨⟨by omega, plain_ints _, by omega⟩, fun zs t2 e2 ht2 => ?_⟩
          obtain ⟨ws, rfl, hw2⟩ := perm_ints6 e2
          ac_nf
          rw [zip_pD]
          refine comp_map mate (by simp; omega) (fun x hx N Y _ hY => ?_) ?_
          · obtain ⟨z, _, rfl⟩ := List.mem_map.mp hx
            unfold DL.pD; ac_nf; exact hY rfl
          rw [mate_map]
          ac_nf
          exact q _ _ t2 hp8 (pl_mates hp8 hw2) (by omega)
        · ac_nf
          refine ⟨⟨by omega, by omega, by omega⟩, fun us t2 hu2 ht2 => ?_⟩
          exact q _ _ t2 hp8 ⟨fun p hm => by have := hu2.rng p hm; omega, hu2.2, hu2.3⟩ (by omega)
abbrev s_law : Stmt := topS 32
theorem sc_law : FnScope ["script", "state", "turn", "one", "other", "every", "persons", "desks", "kind_here", "bad", "away", "odd", "work", "due", "back", "person", "item", "pair"] ["script"] (defScope s_law) := ⟨rfl, rfl, rfl, by decide +kernel, rfl, by decide +kernel, by decide +kernel⟩
theorem ok_law {P : Program} {w : World} {K : PySem.W.Frag} {mg : Str → Option Value} {base : Heap} {f : Addr} {fd : FuncData} (F : Fun K "law" "law" s_law f fd) (B : Bl mg) (T : Tc mg) {cl : Str → Addr} (X_BadPerson : ErrC K mg "BadPerson" (cl "BadPerson") (cl "PickError")) (X_BadPlan : ErrC K mg "BadPlan" (cl "BadPlan") (cl "PickError")) (CL : CalL K mg (cl "PickError")) {cc PT : Addr} (hcc : fd.code = .ref cc) (TB : LamX.TabB base mg cc PT) (C_swapped : Cal P w K mg base false 8 "swapped" ["one", "other", "person"] 3 (ct_swapped cl)) (C__law_pick : Cal P w K mg base false 3 "_law_pick" ["state", "several"] 2 ct_law_pick) (C__law_bad_plan : Cal P w K mg base false 5 "_law_bad_plan" ["state"] 1 ct_law_bad_plan) (C_pieces : Cal P w K mg base false 7 "pieces" ["one", "other"] 2 (ct_pieces cl)) (C_is_plan : Cal P w K mg base false 5 "is_plan" ["thing"] 1 ct_is_plan) (C__law_two_plans : Cal P w K mg base false 6 "_law_two_plans" ["state"] 1 ct_law_two_plans) (C__law_begun : CalB P w K mg base false 2 "_law_begun" ["script"]) (K_swapped_person_other_one : KCal P w K mg base false 8 "swapped" ["one", "other", "person"] ["person", "other", "one"] [2, 1, 0] 3 (ct_swapped cl)) :
    FnG P w K mg base true 11 f fd ["script"] (spOf 1 (ctLawT K 63 PT "law.<locals>.<lambda>")) := by
  refine fngxC (k := 10) F sc_law hcc ⟨_, fun A outer s H E hr hu hgd => ⟨_, (dss_cons (ds_begunK K (i := 0) (j := 1) C__law_begun hr (by decide) (fun _ => hgd rfl) (passes_call (takes_of rfl rfl rfl rfl) fun _ _ _ _ h => h) (by rfl) sc_law.nd rfl (by first | exact Or.inl rfl | exact Or.inr rfl) rfl (by first | exact Or.inl rfl | exact Or.inr (Or.inl rfl) | exact Or.inr (Or.inr rfl)))
      (dss_cons (ds_for (passes_of rfl) rfl (di_rng1 (by rfl) B.b_range (da_cons (de_op d_add de_int (de_callB (d_min2 rfl) (by rfl) B.b_min (by decide +kernel) (da_cons (de_lenScrK K 0 (by rfl) B.b_len) (da_cons de_int da_nil)))) da_nil)) (dg_name (i := 2) sc_law.nd rfl (by first | exact Or.inl rfl | exact Or.inr rfl)) (dss_cons (ds_asgT (de_c C__law_two_plans hr (by decide) (fun _ => hgd rfl) (passes_call (takes_of rfl rfl rfl rfl) fun _ _ _ _ h => h) (by rfl) (da_cons (dv 1) da_nil)) (dg_tup (n := 2) rfl (dgs_cons (dg_name (i := 3) sc_law.nd rfl (by first | exact Or.inl rfl | exact Or.inr rfl)) (dgs_cons (dg_name (i := 4) sc_law.nd rfl (by first | exact Or.inl rfl | exact Or.inr rfl)) dgs_nil))))
      (dss_cons (ds_set (i := 5) sc_law.nd rfl (by first | exact Or.inl rfl | exact Or.inr rfl) (de_sortSet rfl (by rfl) B.b_sorted (by rfl) B.b_set (de_lc (EC := L2.E0) (us := [17]) (own := [("pair", 17)]) rfl sc_law.nd (di_seq (de_op d_add (dv 3) (dv 4))) (blkOk_by (by rfl)) (by decide) (fun _ _ _ _ _ => (dg_name (i := 17) sc_law.nd rfl (by first | exact Or.inl rfl | exact Or.inr rfl))) (fun _ _ _ _ _ => dts_nil) (fun _ _ _ _ _ => (de_ix d_ix (dv 17) de_int (fun _ _ => rfl))))))
      (dss_cons (ds_for (passes_of rfl) rfl (di_seq (de_c C_pieces hr (by decide) (fun _ => hgd rfl) (passes_call (takes_of rfl rfl rfl rfl) fun _ _ _ _ h => h) (by rfl) (da_cons (dv 3) (da_cons (dv 4) da_nil)))) (dg_tup (n := 3) rfl (dgs_cons (dg_name (i := 6) sc_law.nd rfl (by first | exact Or.inl rfl | exact Or.inr rfl)) (dgs_cons (dg_name (i := 7) sc_law.nd rfl (by first | exact Or.inl rfl | exact Or.inr rfl)) (dgs_cons (dg_name (i := 8) sc_law.nd rfl (by first | exact Or.inl rfl | exact Or.inr rfl)) dgs_nil)))) (dss_cons (ds_if (DW.dt (dw_and (dt_cmp (d_eq hu) (dv 8) de_str (nomark _)) (dw_and1 (DW.dt (dw_or (dt_cmp (d_ne hu) (de_callB d_len (by rfl) B.b_len (by decide +kernel) (da_cons (dv 6) da_nil)) (de_callB d_len (by rfl) B.b_len (by decide +kernel) (da_cons (dv 7) da_nil)) (nomark _)) (dw_or1 (dt_cmp (d_lt hu) (de_callB d_len (by rfl) B.b_len (by decide +kernel) (da_cons (dv 6) da_nil)) de_int (nomark _)))))))) (dss_one (ds_ret de_bl)) dss_nil)
      (dss_cons (ds_if (dt_cmp (d_gt hu) (de_callB d_abs (by rfl) B.b_abs (by decide +kernel) (da_cons (de_op d_sub (de_callB d_len (by rfl) B.b_len (by decide +kernel) (da_cons (dv 6) da_nil)) (de_callB d_len (by rfl) B.b_len (by decide +kernel) (da_cons (dv 7) da_nil))) da_nil)) de_int (nomark _)) (dss_one (ds_ret de_bl)) dss_nil)
      (dss_cons (ds_set (i := 13) sc_law.nd rfl (by first | exact Or.inl rfl | exact Or.inr rfl) (de_callTy d_tup (by rfl) B.b_tuple (by decide +kernel) (da_cons (de_callB (d_sorted hu) (by rfl) B.b_sorted (by decide +kernel) (da_cons (de_op d_add (de_lc (EC := L2.E0) (us := [17]) (own := [("pair", 17)]) rfl sc_law.nd (di_seq (dv 3)) (blkOk_by (by rfl)) (by decide) (fun _ _ _ _ _ => (dg_name (i := 17) sc_law.nd rfl (by first | exact Or.inl rfl | exact Or.inr rfl))) (fun _ _ _ _ _ => (dts_one (dt_cmp (d_notin hu) (de_ix d_ix (dv 17) de_int (fun _ _ => rfl)) (dv 6) (by rfl)))) (fun _ _ _ _ _ => (dv 17))) (de_lc (EC := L2.E0) (us := [17]) (own := [("pair", 17)]) rfl sc_law.nd (di_seq (dv 4)) (blkOk_by (by rfl)) (by decide) (fun _ _ _ _ _ => (dg_name (i := 17) sc_law.nd rfl (by first | exact Or.inl rfl | exact Or.inr rfl))) (fun _ _ _ _ _ => (dts_one (dt_cmp (d_in hu) (de_ix d_ix (dv 17) de_int (fun _ _ => rfl)) (dv 6) (by rfl)))) (fun _ _ _ _ _ => (dv 17)))) da_nil)) da_nil)))
      (dss_cons (ds_set (i := 14) sc_law.nd rfl (by first | exact Or.inl rfl | exact Or.inr rfl) (de_callTy d_tup (by rfl) B.b_tuple (by decide +kernel) (da_cons (de_callB (d_sorted hu) (by rfl) B.b_sorted (by decide +kernel) (da_cons (de_op d_add (de_lc (EC := L2.E0) (us := [17]) (own := [("pair", 17)]) rfl sc_law.nd (di_seq (dv 4)) (blkOk_by (by rfl)) (by decide) (fun _ _ _ _ _ => (dg_name (i := 17) sc_law.nd rfl (by first | exact Or.inl rfl | exact Or.inr rfl))) (fun _ _ _ _ _ => (dts_one (dt_cmp (d_notin hu) (de_ix d_ix (dv 17) de_int (fun _ _ => rfl)) (dv 6) (by rfl)))) (fun _ _ _ _ _ => (dv 17))) (de_lc (EC := L2.E0) (us := [17]) (own := [("pair", 17)]) rfl sc_law.nd (di_seq (dv 3)) (blkOk_by (by rfl)) (by decide) (fun _ _ _ _ _ => (dg_name (i := 17) sc_law.nd rfl (by first | exact Or.inl rfl | exact Or.inr rfl))) (fun _ _ _ _ _ => (dts_one (dt_cmp (d_in hu) (de_ix d_ix (dv 17) de_int (fun _ _ => rfl)) (dv 6) (by rfl)))) (fun _ _ _ _ _ => (dv 17)))) da_nil)) da_nil)))
      (dss_cons (ds_for (passes_of rfl) rfl (di_seq (dv 6)) (dg_name (i := 15) sc_law.nd rfl (by first | exact Or.inl rfl | exact Or.inr rfl)) (dss_cons (ds_if (dt_cmp (d_ne hu) (de_callB (d_reprA hu (hgd rfl)) (by rfl) B.b_repr (by decide +kernel) (da_cons (de_lst (da_cons (de_c C_swapped hr (by decide) (fun _ => hgd rfl) (passes_call (takes_of rfl rfl rfl rfl) fun _ _ _ _ h => h) (by rfl) (da_cons (dv 3) (da_cons (dv 4) (da_cons (dv 15) da_nil)))) (da_cons (de_k K_swapped_person_other_one hr (by decide) (fun _ => hgd rfl) (passes_call (takes_of rfl rfl rfl rfl) fun _ _ _ _ h => h) (by rfl) (dk_cons (dv 15) (dk_cons (dv 4) (dk_cons (dv 3) dk_nil)))) da_nil))) da_nil)) (de_callB (d_reprA hu (hgd rfl)) (by rfl) B.b_repr (by decide +kernel) (da_cons (de_lst (da_cons (dv 13) (da_cons (dv 13) da_nil))) da_nil)) (nomark _)) (dss_one (ds_ret de_bl)) dss_nil)
      (dss_one (ds_if (DW.dt (dw_or (dt_cmp (d_ne hu) (de_callB (d_reprA hu (hgd rfl)) (by rfl) B.b_repr (by decide +kernel) (da_cons (de_c C_swapped hr (by decide) (fun _ => hgd rfl) (passes_call (takes_of rfl rfl rfl rfl) fun _ _ _ _ h => h) (by rfl) (da_cons (dv 4) (da_cons (dv 3) (da_cons (dv 15) da_nil)))) da_nil)) (de_callB (d_reprA hu (hgd rfl)) (by rfl) B.b_repr (by decide +kernel) (da_cons (dv 14) da_nil)) (nomark _)) (dw_or (dt_notB (de_c C_is_plan hr (by decide) (fun _ => hgd rfl) (passes_call (takes_of rfl rfl rfl rfl) fun _ _ _ _ h => h) (by rfl) (da_cons (dv 13) da_nil))) (dw_or1 (dt_notB (de_c C_is_plan hr (by decide) (fun _ => hgd rfl) (passes_call (takes_of rfl rfl rfl rfl) fun _ _ _ _ h => h) (by rfl) (da_cons (dv 14) da_nil))))))) (dss_one (ds_ret de_bl)) dss_nil))))
      (dss_one (ds_if (dt_cmp (d_ne hu) (de_callB (d_sorted hu) (by rfl) B.b_sorted (by decide +kernel) (da_cons (de_op d_add (dv 13) (dv 14)) da_nil)) (de_callB (d_sorted hu) (by rfl) B.b_sorted (by decide +kernel) (da_cons (de_op d_add (dv 3) (dv 4)) da_nil)) (nomark _)) (dss_one (ds_ret de_bl)) dss_nil))))))))
      (dss_cons (ds_asgT (de_tup (da_cons (de_c C__law_bad_plan hr (by decide) (fun _ => hgd rfl) (passes_call (takes_of rfl rfl rfl rfl) fun _ _ _ _ h => h) (by rfl) (da_cons (dv 1) da_nil)) (da_cons (de_lc (EC := L2.E0) (us := [16]) (own := [("item", 16)]) rfl sc_law.nd (di_rng1 (by rfl) B.b_range (da_cons de_int da_nil)) (blkOk_by (by rfl)) (by decide) (fun _ _ _ _ _ => (dg_name (i := 16) sc_law.nd rfl (by first | exact Or.inl rfl | exact Or.inr rfl))) (fun _ _ _ _ _ => (dts_one (dt_cmp (d_notin hu) (dv 16) (dv 5) (by rfl)))) (fun _ _ _ _ _ => (dv 16))) da_nil))) (dg_tup (n := 2) rfl (dgs_cons (dg_name (i := 9) sc_law.nd rfl (by first | exact Or.inl rfl | exact Or.inr rfl)) (dgs_cons (dg_name (i := 10) sc_law.nd rfl (by first | exact Or.inl rfl | exact Or.inr rfl)) dgs_nil))))
      (dss_cons (ds_set (i := 11) sc_law.nd rfl (by first | exact Or.inl rfl | exact Or.inr rfl) (de_c C__law_pick hr (by decide) (fun _ => hgd rfl) (passes_call (takes_of rfl rfl rfl rfl) fun _ _ _ _ h => h) (by rfl) (da_cons (dv 1) (da_cons (de_op d_add (de_lst (da_cons (de_neg de_int) (da_cons de_int (da_cons de_non (da_cons de_str (da_cons de_bl (da_cons (de_tup (da_cons de_int da_nil)) da_nil))))))) (dv 10)) da_nil))))
      (dss_cons (ds_forC (i := 12) K "law.<locals>.<lambda>" 0 8 CL X_BadPlan hr (by rfl) ⟨⟨_, TB, rfl⟩, rfl⟩ (DLams.cons (LamX.lamS_by (sc := defScope s_law) (by decide +kernel)) rfl (fun _ _ _ _ _ => rfl) (fun _ _ _ _ _ _ _ hr => (de_c C_swapped hr (by decide) (fun z => nomatch z) (passes_call (takes_of rfl rfl rfl rfl) fun _ _ _ _ h => h) (by rfl) (da_cons (dv 9) (da_cons (dv 4) (da_cons (dv 11) da_nil))))) (by rfl) (DLams.cons (LamX.lamS_by (sc := defScope s_law) (by decide +kernel)) rfl (fun _ _ _ _ _ => rfl) (fun _ _ _ _ _ _ _ hr => (de_c C_swapped hr (by decide) (fun z => nomatch z) (passes_call (takes_of rfl rfl rfl rfl) fun _ _ _ _ h => h) (by rfl) (da_cons (dv 3) (da_cons (dv 9) (da_cons (dv 11) da_nil))))) (by rfl) DLams.nil)) (passes_of rfl) rfl sc_law.nd rfl (by first | exact Or.inl rfl | exact Or.inr rfl) (by rfl) B.b_isinstance (by rfl) (dss_one (ds_ret de_bl)))
      (dss_one (ds_if (dt_not (dt_val (de_callB (d_isEx X_BadPerson.is) (by rfl) B.b_isinstance (by decide +kernel) (da_cons (de_caughtKX K "law.<locals>.<lambda>" 0 8 CL hr (by rfl) ⟨⟨_, TB, rfl⟩, rfl⟩ (LamX.lamS_by (sc := defScope s_law) (by decide +kernel)) rfl (fun _ _ _ _ _ => rfl) (fun _ _ _ _ _ _ _ hr => (de_c C_swapped hr (by decide) (fun z => nomatch z) (passes_call (takes_of rfl rfl rfl rfl) fun _ _ _ _ h => h) (by rfl) (da_cons (dv 3) (da_cons (dv 4) (da_cons (dv 11) da_nil)))))) (da_cons (de_globV (v := .ref (cl "BadPerson")) (by rfl) X_BadPerson.g rfl) da_nil))))) (dss_one (ds_ret de_bl)) dss_nil)))))))))
      (dss_one (ds_ret de_bl))))⟩, fun args ow KQ KB hl hc => ?_⟩
  obtain ⟨ns, rfl, rfl, hl63, q⟩ := hc
  ac_rfl
  refine ⟨by omega, ?_⟩
  ac_rfl
  refine ⟨by split <;> omega, ?_⟩
  generalize hN : (2 + if (6 : Int) < (ns.length : Int) then (6 : Int) else (ns.length : Int)).toNat = N
  have hn : N ≤ 8 := by rw [← hN]; split <;> omega
  refine loop_inv (fun i a2 => ∃ t s2 s3 s4 s5 s6 s7 s8 s9 s10 s11 s12 s13 s14 s15 s16 s17, t ≤ i * 200 ∧ a2 = ⟨[.sc K ns, .o 1, s2, s3, s4, s5, s6, s7, s8, s9, s10, s11, s12, s13, s14, s15, s16, s17], [.tb PT "law.<locals>.<lambda>", .st t], 1⟩) ⟨0, _, _, _, _, _, _, _, _, _, _, _, _, _, _, _, _, by omega, rfl⟩ ?_ ?_
  · rintro _ ⟨t, s2, s3, s4, s5, s6, s7, s8, s9, s10, s11, s12, s13, s14, s15, s16, s17, ht, rfl⟩
    ac_rfl
    exact q
  rintro i x _ hx ⟨t, s2, s3, s4, s5, s6, s7, s8, s9, s10, s11, s12, s13, s14, s15, s16, s17, ht, rfl⟩
  have hi := (List.getElem?_eq_some_iff.mp hx).1
  rw [rng_len] at hi
  ac_rfl
  refine ⟨by omega, fun ps us t1 hp hu' ht1 => ?_⟩
  have l1 := Pl.len (m := 8) hp
  have l2 := Pl.len (m := 8) hu'
  have sp := small_plan hp
  have yp := plan_y hp
  have su := small_plan hu'
  have yu := plan_y hu'
  ac_rfl
  refine ⟨by omega, ?_⟩
  rw [← List.map_append]
  refine comp_map (fun d => .int (toP d).1) (by simp; omega) (fun x hx N Y _ hY => ?_) ?_
  · obtain ⟨p, _, rfl⟩ := List.mem_map.mp hx
    unfold DL.pD; ac_rfl; exact hY rfl
  rw [map_firsts]
  ac_rfl
  refine ⟨by omega, ?_⟩
  generalize hE : asc (List.map (fun x => x.fst) (ps ++ us)) = every
  ac_rfl
  simp only [yp, yu, br_t, asPlan_t, so_s]
  refine ⟨⟨sp, su⟩, fun L hL hL16 => ?_⟩
  ac_rfl
  refine loop_inv (fun j a' => ∃ s6 s7 s8 s9 s10 s11 s12 s13 s14 s15 s16 s17, a' = ⟨[.sc K ns, .o 1, .d x, .d (.tuple (ps.map DL.pD)), .d (.tuple (us.map DL.pD)), .d (.list (every.map PyData.int)), s6, s7, s8, s9, s10, s11, s12, s13, s14, s15, s16, s17], [.tb PT "law.<locals>.<lambda>", .st t1], 1⟩) ⟨_, _, _, _, _, _, _, _, _, _, _, _, rfl⟩ ?_ ?_
  · rintro _ ⟨s6, s7, s8, s9, s10, s11, s12, s13, s14, s15, s16, s17, rfl⟩
    ac_rfl
    refine ⟨by omega, fun bad t2 hbad hsm ht2 => ?_⟩
    rw [show rangeD 0 8 = (ups 8).map PyData.int from range_ups 8]
    refine comp_pure (onI fun i => !decide (i ∈ every)) (fun d => d) (by simp [ups_len]) (fun x hx N Y hN hY => ?_) ?_
    · obtain ⟨i, _, rfl⟩ := List.mem_map.mp hx
      ac_rfl
      refine ⟨canIn_int _ _, ?_⟩
      rw [int_in]
      exact br_i (fun h => hY h) fun h => hN h
    rw [filter_ints]
    have aw8 : ((ups 8).filter fun i => !decide (i ∈ every)).length ≤ 8 := by
      have := List.length_filter_le (fun i => !decide (i ∈ every)) (ups 8)
      rw [ups_len] at this
      exact this
    ac_rfl
    refine ⟨by omega, ⟨by omega, by omega⟩, fun odd hodd => ?_⟩
    have ho : odd.plain = true ∧ ∀ i, odd = .int i → i ∉ ps.map (·.1) ++ us.map (·.1) := by
      have hodd : odd ∈ [PyData.int (-1), .int 8, .none, .str "0", .bool true, .tuple [.int 0]] ++ ((ups 8).filter fun i => !decide (i ∈ every)).map PyData.int := hodd
      have rg : ∀ i ∈ ps.map (·.1) ++ us.map (·.1), 0 ≤ i ∧ i < 8 := fun i hi => by
        rcases List.mem_append.mp hi with z | z
        · obtain ⟨q, hq, rfl⟩ := List.mem_map.mp z; have := hp.rng q hq; omega
        · obtain ⟨q, hq, rfl⟩ := List.mem_map.mp z; have := hu'.rng q hq; omega
      rcases List.mem_append.mp hodd with z | z
      · simp only [List.mem_cons, List.not_mem_nil, or_false] at z
        rcases z with rfl | rfl | rfl | rfl | rfl | rfl
        · exact ⟨rfl, fun i e hi => by cases e; have := rg _ hi; omega⟩
        · exact ⟨rfl, fun i e hi => by cases e; have := rg _ hi; omega⟩
        · exact ⟨rfl, fun i e => by cases e⟩
        · exact ⟨rfl, fun i e => by cases e⟩
        · exact ⟨rfl, fun i e => by cases e⟩
        · exact ⟨rfl, fun i e => by cases e⟩
      · obtain ⟨i, hi, rfl⟩ := List.mem_map.mp z
        refine ⟨rfl, fun j e hj => ?_⟩
        cases e
        have := (List.mem_filter.mp hi).2
        rw [← hE] at this
        simp only [Bool.not_eq_true', decide_eq_false_iff_not] at this
        exact this (mem_asc.mpr (by rw [List.map_append]; exact hj))
    ac_rfl
    simp only [hbad, yp, yu, br_f, br_t, asPlan_t, so_s]
    refine ⟨⟨hsm.p, su, ho.1⟩, X_BadPlan.pe, ⟨sp, hsm.p, ho.1⟩, X_BadPlan.pe, ?_⟩
    ac_rfl
    simp only [yp, yu, br_f, br_t, asPlan_t, so_s]
    refine ⟨⟨sp, su, ho.1⟩, ?_⟩
    cases hn2 : isNum odd with
    | false =>
      rw [br_f]
      exact ⟨X_BadPerson.pe, _, _, _, _, _, _, _, _, _, _, _, _, _, _, _, _, _, by omega, rfl⟩
    | true =>
      obtain ⟨i, rfl⟩ := isNum_int hn2
      rw [br_t, inD_i, so_s, decide_eq_false (ho.2 i rfl), br_f]
      exact ⟨X_BadPerson.pe, _, _, _, _, _, _, _, _, _, _, _, _, _, _, _, _, _, by omega, rfl⟩
  rintro j y _ hy ⟨s6, s7, s8, s9, s10, s11, s12, s13, s14, s15, s16, s17, rfl⟩
  obtain ⟨⟨S, T, k⟩, he, rfl⟩ := List.mem_map.mp (List.mem_of_getElem? hy)
  obtain ⟨a, ha, hg, hk⟩ := hL _ he
  dsimp only at hg hk
  have hS := hg_len hg
  rw [List.length_append] at hS
  obtain ⟨b1, b2⟩ := balanced hp hu' hg
  unfold pieceD
  ac_rfl
  refine br_guard2 (fun z => ?_) ?_
  · have z := of_decide_eq_true z
    rw [hk] at z
    obtain ⟨z1, z2⟩ := ring_is hp hu' ha hg z
    exact ⟨by simp [z1], by simp; omega⟩
  ac_rfl
  refine br_no (decide_eq_false (by split <;> omega)) ?_
  ac_rfl
  have outs : ∀ ps : List (Int × Int), ((ps.map DL.pD).filter fun d => !inS S d).map (fun d => d) = (ps.filter fun q => !decide (q.1 ∈ S)).map DL.pD := fun ps => stay_map ps S
  have lo : ∀ ps : List (Int × Int), (ps.filter fun q => !decide (q.1 ∈ S)).length ≤ ps.length := fun ps => List.length_filter_le _ _
  have lw : ∀ ps : List (Int × Int), (wthn ps S).length ≤ ps.length := fun ps => List.length_filter_le _ _
  have l3 := lo ps; have l4 := lo us; have l5 := lw ps; have l6 := lw us
  refine comp_pure (fun d => !inS S d) (fun d => d) (by simp; omega) (fun x hx N Y hN hY => ?_) ?_
  · obtain ⟨p, d, rfl, e⟩ := in_stay _ S _ hx
    ac_rfl
    refine ⟨canIn_int _ _, ?_⟩
    rw [int_in]
    exact br_i (fun h => hY h) fun h => hN h
  rw [outs]
  ac_rfl
  refine comp_pure (inS S) (fun d => d) (by simp; omega) (fun x hx N Y hN hY => ?_) ?_
  · obtain ⟨p, d, rfl, e⟩ := in_stay _ S _ hx
    ac_rfl
    refine ⟨canIn_int _ _, ?_⟩
    rw [int_in]
    exact br_i (fun h => hY h) fun h => hN h
  rw [wthn_map]
  ac_rfl
  refine ⟨by omega, ?_⟩
  rw [← List.map_append]
  refine ⟨canSort_pairs (by rw [List.length_append]; omega), ?_⟩
  rw [sortD_pD]
  ac_rfl
  refine comp_pure (fun d => !inS S d) (fun d => d) (by simp; omega) (fun x hx N Y hN hY => ?_) ?_
  · obtain ⟨p, d, rfl, e⟩ := in_stay _ S _ hx
    ac_rfl
    refine ⟨canIn_int _ _, ?_⟩
    rw [int_in]
    exact br_i (fun h => hY h) fun h => hN h
  rw [outs]
  ac_rfl
  refine comp_pure (inS S) (fun d => d) (by simp; omega) (fun x hx N Y hN hY => ?_) ?_
  · obtain ⟨p, d, rfl, e⟩ := in_stay _ S _ hx
    ac_rfl
    refine ⟨canIn_int _ _, ?_⟩
    rw [int_in]
    exact br_i (fun h => hY h) fun h => hN h
  rw [wthn_map]
  ac_rfl
  refine ⟨by omega, ?_⟩
  rw [← List.map_append]
  refine ⟨canSort_pairs (by rw [List.length_append]; omega), ?_⟩
  rw [sortD_pD]
  have d1 : Pl 8 (sortP (swpL ps us S)) := swap_plan hp hu' hg
  have d2 : Pl 8 (sortP (swpL us ps S)) := swap_plan hu' hp (hg_comm hg)
  have spm := swap_perm ps us S
  unfold swpL at d1 d2 spm
  generalize hD1 : (ps.filter fun q => !decide (q.1 ∈ S)) ++ wthn us S = due at *
  generalize hD2 : (us.filter fun q => !decide (q.1 ∈ S)) ++ wthn ps S = back at *
  ac_rfl
  refine loop_inv (fun j a' => ∃ s15 s16 s17, a' = ⟨[.sc K ns, .o 1, .d x, .d (.tuple (ps.map DL.pD)), .d (.tuple (us.map DL.pD)), .d (.list (every.map PyData.int)), .d (.tuple (S.map PyData.int)), .d (.tuple (T.map PyData.int)), .d (.str k), s9, s10, s11, s12, .d (.tuple ((sortP due).map DL.pD)), .d (.tuple ((sortP back).map DL.pD)), s15, s16, s17], [.tb PT "law.<locals>.<lambda>", .st t1], 1⟩) ⟨_, _, _, rfl⟩ ?_ ?_
  · rintro _ ⟨s15, s16, s17, rfl⟩
    ac_rfl
    have q1 : (sortP due).length = due.length := sortP_len _
    have q2 : (sortP back).length = back.length := sortP_len _
    have q3 := spm.length_eq
    rw [List.length_append, List.length_append] at q3
    refine ⟨by omega, ?_⟩
    rw [← List.map_append]
    refine ⟨canSort_pairs (by rw [List.length_append]; omega), ?_⟩
    rw [sortD_pD]
    refine ⟨by omega, ?_⟩
    rw [← List.map_append]
    refine ⟨canSort_pairs (by rw [List.length_append]; omega), ?_⟩
    rw [sortD_pD]
    refine ⟨canEq_pairs _ _, ?_⟩
    rw [eqv_pairs, sortP_congr (((sortP_perm due).append (sortP_perm back)).trans spm)]
    rw [decide_eq_true rfl]
    ac_rfl
    exact ⟨_, _, _, _, _, _, _, _, _, _, _, _, rfl⟩
  rintro m y _ hm ⟨s15, s16, s17, rfl⟩
  obtain ⟨pe, hpe, rfl⟩ := List.mem_map.mp (List.mem_of_getElem? hm)
  have uq : ∀ S' T', Hg (ps ++ us) pe S' T' → S' = S := fun S' T' h' => (hg_uniq h' hg hpe (hg_meet hg h' hpe h'.me)).1
  have inp : pe ∈ ps.map (·.1) ++ us.map (·.1) := by rw [← List.map_append]; exact hg_in hg ha pe hpe
  have inq : pe ∈ us.map (·.1) ++ ps.map (·.1) := by rw [List.mem_append] at inp ⊢; exact inp.symm
  have c2 := sh_two d1 d1
  have c1 := sh_one d2
  have y1 := plan_y d1
  have y2 := plan_y d2
  ac_rfl
  simp only [yp, yu, br_t, show isNum (.int pe) = true from rfl, decide_eq_true inp, decide_eq_true inq]
  refine ⟨⟨sp, su⟩, fun S1 T1 g1 => ?_⟩
  obtain rfl := uq _ _ g1
  rw [hD1]
  refine ⟨⟨sp, su⟩, fun S2 T2 g2 => ?_⟩
  obtain rfl := uq _ _ g2
  rw [hD1]
  refine ⟨c2, c2, ?_⟩
  rw [decide_eq_true rfl]
  ac_rfl
  simp only [yp, yu, y1, y2, br_t, show isNum (.int pe) = true from rfl, decide_eq_true inp, decide_eq_true inq]
  refine ⟨⟨su, sp⟩, fun S3 T3 g3 => ?_⟩
  obtain rfl := uq _ _ (hg_comm g3)
  rw [hD2]
  refine ⟨c1, c1, ?_⟩
  rw [decide_eq_true rfl]
  ac_rfl
  exact ⟨small_plan d1, br_no rfl ⟨small_plan d2, br_no rfl ⟨_, _, _, rfl⟩⟩⟩
theorem all_mk {l : PySem.W.OpenLaw} {w : World} {K : PySem.W.Frag} {h : Heap} {mg : Str → Option Value} {cc fa f_is_number f_is_from f_is_pair f_are_apart f_is_plan f_need_plan f_persons_of f_hanging f_within f_kind_of f_pieces f_swapped f_law_begun f_law_draw f_law_pick f_law_mixed f_law_caught f_law_plan f_law_any_plan f_law_near_plan f_law_bool_pair f_law_bad_plan f_law_two_plans f_law : Addr} (X : K.In h) (G : h.Ns mainGlobals mg) (hfa : mg "law" = some (.ref fa))
    {od_is_number an_is_number od_is_from an_is_from od_is_pair an_is_pair od_are_apart an_are_apart od_is_plan an_is_plan od_need_plan an_need_plan od_persons_of an_persons_of od_hanging an_hanging od_within an_within od_kind_of an_kind_of od_pieces an_pieces od_swapped an_swapped od_law_begun an_law_begun od_law_draw an_law_draw od_law_pick an_law_pick od_law_mixed an_law_mixed od_law_caught an_law_caught od_law_plan an_law_plan od_law_any_plan an_law_any_plan od_law_near_plan an_law_near_plan od_law_bool_pair an_law_bool_pair od_law_bad_plan an_law_bad_plan od_law_two_plans an_law_two_plans od_law an_law : Option Addr} {sl_is_number sl_is_from sl_is_pair sl_are_apart sl_is_plan sl_need_plan sl_persons_of sl_hanging sl_within sl_kind_of sl_pieces sl_swapped sl_law_begun sl_law_draw sl_law_pick sl_law_mixed sl_law_caught sl_law_plan sl_law_any_plan sl_law_near_plan sl_law_bool_pair sl_law_bad_plan sl_law_two_plans sl_law : Array (Option Value)} {oc0 kV0 dc0 pm0 cd0 ct0 oc1 kV1 dc1 pm1 cd1 ct1 oc2 kV2 dc2 pm2 cd2 ct2 oc3 kV3 dc3 pm3 cd3 ct3 oc4 kV4 dc4 pm4 cd4 ct4 oc5 kV5 dc5 pm5 cd5 ct5 oc6 kV6 dc6 pm6 cd6 ct6 oc7 kV7 dc7 pm7 cd7 ct7 oc8 kV8 dc8 pm8 cd8 ct8 oc9 kV9 dc9 pm9 cd9 ct9 oc10 kV10 dc10 pm10 cd10 ct10 oc11 kV11 dc11 pm11 cd11 ct11 oc12 kV12 dc12 pm12 cd12 ct12 oc13 kV13 dc13 pm13 cd13 ct13 oc14 kV14 dc14 pm14 cd14 ct14 oc15 kV15 dc15 pm15 cd15 ct15 oc16 kV16 dc16 pm16 cd16 ct16 oc17 kV17 dc17 pm17 cd17 ct17 oc18 kV18 dc18 pm18 cd18 ct18 oc19 kV19 dc19 pm19 cd19 ct19 oc20 kV20 dc20 pm20 cd20 ct20 oc21 kV21 dc21 pm21 cd21 ct21 oc22 kV22 dc22 pm22 cd22 ct22 oc23 kV23 dc23 pm23 ct23 : Value}
    (a_is_number : PySem.W.nsIn K mainGlobals "is_number" = some (some (.ref f_is_number))) (l_is_number : K.lookup f_is_number = some ⟨oc0, od_is_number, .func (PySem.W.fnOf "is_number" "is_number" (defArgs s_is_number) (defBody s_is_number) (defScope s_is_number) .none kV0 dc0 pm0 an_is_number cd0 ct0), sl_is_number⟩) (c_is_number : PySem.W.codeIn K cd0 "is_number" = true) (k_is_number : PySem.W.keepIn K (.ref f_is_number) = true)
    (a_is_from : PySem.W.nsIn K mainGlobals "is_from" = some (some (.ref f_is_from))) (l_is_from : K.lookup f_is_from = some ⟨oc1, od_is_from, .func (PySem.W.fnOf "is_from" "is_from" (defArgs s_is_from) (defBody s_is_from) (defScope s_is_from) .none kV1 dc1 pm1 an_is_from cd1 ct1), sl_is_from⟩) (c_is_from : PySem.W.codeIn K cd1 "is_from" = true) (k_is_from : PySem.W.keepIn K (.ref f_is_from) = true)
    (a_is_pair : PySem.W.nsIn K mainGlobals "is_pair" = some (some (.ref f_is_pair))) (l_is_pair : K.lookup f_is_pair = some ⟨oc2, od_is_pair, .func (PySem.W.fnOf "is_pair" "is_pair" (defArgs s_is_pair) (defBody s_is_pair) (defScope s_is_pair) .none kV2 dc2 pm2 an_is_pair cd2 ct2), sl_is_pair⟩) (c_is_pair : PySem.W.codeIn K cd2 "is_pair" = true) (k_is_pair : PySem.W.keepIn K (.ref f_is_pair) = true)
    (a_are_apart : PySem.W.nsIn K mainGlobals "are_apart" = some (some (.ref f_are_apart))) (l_are_apart : K.lookup f_are_apart = some ⟨oc3, od_are_apart, .func (PySem.W.fnOf "are_apart" "are_apart" (defArgs s_are_apart) (defBody s_are_apart) (defScope s_are_apart) .none kV3 dc3 pm3 an_are_apart cd3 ct3), sl_are_apart⟩) (c_are_apart : PySem.W.codeIn K cd3 "are_apart" = true) (k_are_apart : PySem.W.keepIn K (.ref f_are_apart) = true)
    (a_is_plan : PySem.W.nsIn K mainGlobals "is_plan" = some (some (.ref f_is_plan))) (l_is_plan : K.lookup f_is_plan = some ⟨oc4, od_is_plan, .func (PySem.W.fnOf "is_plan" "is_plan" (defArgs s_is_plan) (defBody s_is_plan) (defScope s_is_plan) .none kV4 dc4 pm4 an_is_plan cd4 ct4), sl_is_plan⟩) (c_is_plan : PySem.W.codeIn K cd4 "is_plan" = true) (k_is_plan : PySem.W.keepIn K (.ref f_is_plan) = true)
    (a_need_plan : PySem.W.nsIn K mainGlobals "need_plan" = some (some (.ref f_need_plan))) (l_need_plan : K.lookup f_need_plan = some ⟨oc5, od_need_plan, .func (PySem.W.fnOf "need_plan" "need_plan" (defArgs s_need_plan) (defBody s_need_plan) (defScope s_need_plan) .none kV5 dc5 pm5 an_need_plan cd5 ct5), sl_need_plan⟩) (c_need_plan : PySem.W.codeIn K cd5 "need_plan" = true) (k_need_plan : PySem.W.keepIn K (.ref f_need_plan) = true)
    (a_persons_of : PySem.W.nsIn K mainGlobals "persons_of" = some (some (.ref f_persons_of))) (l_persons_of : K.lookup f_persons_of = some ⟨oc6, od_persons_of, .func (PySem.W.fnOf "persons_of" "persons_of" (defArgs s_persons_of) (defBody s_persons_of) (defScope s_persons_of) .none kV6 dc6 pm6 an_persons_of cd6 ct6), sl_persons_of⟩) (c_persons_of : PySem.W.codeIn K cd6 "persons_of" = true) (k_persons_of : PySem.W.keepIn K (.ref f_persons_of) = true)
    (a_hanging : PySem.W.nsIn K mainGlobals "hanging" = some (some (.ref f_hanging))) (l_hanging : K.lookup f_hanging = some ⟨oc7, od_hanging, .func (PySem.W.fnOf "hanging" "hanging" (defArgs s_hanging) (defBody s_hanging) (defScope s_hanging) .none kV7 dc7 pm7 an_hanging cd7 ct7), sl_hanging⟩) (c_hanging : PySem.W.codeIn K cd7 "hanging" = true) (k_hanging : PySem.W.keepIn K (.ref f_hanging) = true)
    (a_within : PySem.W.nsIn K mainGlobals "within" = some (some (.ref f_within))) (l_within : K.lookup f_within = some ⟨oc8, od_within, .func (PySem.W.fnOf "within" "within" (defArgs s_within) (defBody s_within) (defScope s_within) .none kV8 dc8 pm8 an_within cd8 ct8), sl_within⟩) (c_within : PySem.W.codeIn K cd8 "within" = true) (k_within : PySem.W.keepIn K (.ref f_within) = true)
    (a_kind_of : PySem.W.nsIn K mainGlobals "kind_of" = some (some (.ref f_kind_of))) (l_kind_of : K.lookup f_kind_of = some ⟨oc9, od_kind_of, .func (PySem.W.fnOf "kind_of" "kind_of" (defArgs s_kind_of) (defBody s_kind_of) (defScope s_kind_of) .none kV9 dc9 pm9 an_kind_of cd9 ct9), sl_kind_of⟩) (c_kind_of : PySem.W.codeIn K cd9 "kind_of" = true) (k_kind_of : PySem.W.keepIn K (.ref f_kind_of) = true)
    (a_pieces : PySem.W.nsIn K mainGlobals "pieces" = some (some (.ref f_pieces))) (l_pieces : K.lookup f_pieces = some ⟨oc10, od_pieces, .func (PySem.W.fnOf "pieces" "pieces" (defArgs s_pieces) (defBody s_pieces) (defScope s_pieces) .none kV10 dc10 pm10 an_pieces cd10 ct10), sl_pieces⟩) (c_pieces : PySem.W.codeIn K cd10 "pieces" = true) (k_pieces : PySem.W.keepIn K (.ref f_pieces) = true)
    (a_swapped : PySem.W.nsIn K mainGlobals "swapped" = some (some (.ref f_swapped))) (l_swapped : K.lookup f_swapped = some ⟨oc11, od_swapped, .func (PySem.W.fnOf "swapped" "swapped" (defArgs s_swapped) (defBody s_swapped) (defScope s_swapped) .none kV11 dc11 pm11 an_swapped cd11 ct11), sl_swapped⟩) (c_swapped : PySem.W.codeIn K cd11 "swapped" = true) (k_swapped : PySem.W.keepIn K (.ref f_swapped) = true)
    (a_law_begun : PySem.W.nsIn K mainGlobals "_law_begun" = some (some (.ref f_law_begun))) (l_law_begun : K.lookup f_law_begun = some ⟨oc12, od_law_begun, .func (PySem.W.fnOf "_law_begun" "_law_begun" (defArgs s_law_begun) (defBody s_law_begun) (defScope s_law_begun) .none kV12 dc12 pm12 an_law_begun cd12 ct12), sl_law_begun⟩) (c_law_begun : PySem.W.codeIn K cd12 "_law_begun" = true) (k_law_begun : PySem.W.keepIn K (.ref f_law_begun) = true)
    (a_law_draw : PySem.W.nsIn K mainGlobals "_law_draw" = some (some (.ref f_law_draw))) (l_law_draw : K.lookup f_law_draw = some ⟨oc13, od_law_draw, .func (PySem.W.fnOf "_law_draw" "_law_draw" (defArgs s_law_draw) (defBody s_law_draw) (defScope s_law_draw) .none kV13 dc13 pm13 an_law_draw cd13 ct13), sl_law_draw⟩) (c_law_draw : PySem.W.codeIn K cd13 "_law_draw" = true) (k_law_draw : PySem.W.keepIn K (.ref f_law_draw) = true)
    (a_law_pick : PySem.W.nsIn K mainGlobals "_law_pick" = some (some (.ref f_law_pick))) (l_law_pick : K.lookup f_law_pick = some ⟨oc14, od_law_pick, .func (PySem.W.fnOf "_law_pick" "_law_pick" (defArgs s_law_pick) (defBody s_law_pick) (defScope s_law_pick) .none kV14 dc14 pm14 an_law_pick cd14 ct14), sl_law_pick⟩) (c_law_pick : PySem.W.codeIn K cd14 "_law_pick" = true) (k_law_pick : PySem.W.keepIn K (.ref f_law_pick) = true)
    (a_law_mixed : PySem.W.nsIn K mainGlobals "_law_mixed" = some (some (.ref f_law_mixed))) (l_law_mixed : K.lookup f_law_mixed = some ⟨oc15, od_law_mixed, .func (PySem.W.fnOf "_law_mixed" "_law_mixed" (defArgs s_law_mixed) (defBody s_law_mixed) (defScope s_law_mixed) .none kV15 dc15 pm15 an_law_mixed cd15 ct15), sl_law_mixed⟩) (c_law_mixed : PySem.W.codeIn K cd15 "_law_mixed" = true) (k_law_mixed : PySem.W.keepIn K (.ref f_law_mixed) = true)
    (a_law_caught : PySem.W.nsIn K mainGlobals "_law_caught" = some (some (.ref f_law_caught))) (l_law_caught : K.lookup f_law_caught = some ⟨oc16, od_law_caught, .func (PySem.W.fnOf "_law_caught" "_law_caught" (defArgs s_law_caught) (defBody s_law_caught) (defScope s_law_caught) .none kV16 dc16 pm16 an_law_caught cd16 ct16), sl_law_caught⟩) (c_law_caught : PySem.W.codeIn K cd16 "_law_caught" = true) (k_law_caught : PySem.W.keepIn K (.ref f_law_caught) = true)
    (a_law_plan : PySem.W.nsIn K mainGlobals "_law_plan" = some (some (.ref f_law_plan))) (l_law_plan : K.lookup f_law_plan = some ⟨oc17, od_law_plan, .func (PySem.W.fnOf "_law_plan" "_law_plan" (defArgs s_law_plan) (defBody s_law_plan) (defScope s_law_plan) .none kV17 dc17 pm17 an_law_plan cd17 ct17), sl_law_plan⟩) (c_law_plan : PySem.W.codeIn K cd17 "_law_plan" = true) (k_law_plan : PySem.W.keepIn K (.ref f_law_plan) = true)
    (a_law_any_plan : PySem.W.nsIn K mainGlobals "_law_any_plan" = some (some (.ref f_law_any_plan))) (l_law_any_plan : K.lookup f_law_any_plan = some ⟨oc18, od_law_any_plan, .func (PySem.W.fnOf "_law_any_plan" "_law_any_plan" (defArgs s_law_any_plan) (defBody s_law_any_plan) (defScope s_law_any_plan) .none kV18 dc18 pm18 an_law_any_plan cd18 ct18), sl_law_any_plan⟩) (c_law_any_plan : PySem.W.codeIn K cd18 "_law_any_plan" = true) (k_law_any_plan : PySem.W.keepIn K (.ref f_law_any_plan) = true)
    (a_law_near_plan : PySem.W.nsIn K mainGlobals "_law_near_plan" = some (some (.ref f_law_near_plan))) (l_law_near_plan : K.lookup f_law_near_plan = some ⟨oc19, od_law_near_plan, .func (PySem.W.fnOf "_law_near_plan" "_law_near_plan" (defArgs s_law_near_plan) (defBody s_law_near_plan) (defScope s_law_near_plan) .none kV19 dc19 pm19 an_law_near_plan cd19 ct19), sl_law_near_plan⟩) (c_law_near_plan : PySem.W.codeIn K cd19 "_law_near_plan" = true) (k_law_near_plan : PySem.W.keepIn K (.ref f_law_near_plan) = true)
    (a_law_bool_pair : PySem.W.nsIn K mainGlobals "_law_bool_pair" = some (some (.ref f_law_bool_pair))) (l_law_bool_pair : K.lookup f_law_bool_pair = some ⟨oc20, od_law_bool_pair, .func (PySem.W.fnOf "_law_bool_pair" "_law_bool_pair" (defArgs s_law_bool_pair) (defBody s_law_bool_pair) (defScope s_law_bool_pair) .none kV20 dc20 pm20 an_law_bool_pair cd20 ct20), sl_law_bool_pair⟩) (c_law_bool_pair : PySem.W.codeIn K cd20 "_law_bool_pair" = true) (k_law_bool_pair : PySem.W.keepIn K (.ref f_law_bool_pair) = true)
    (a_law_bad_plan : PySem.W.nsIn K mainGlobals "_law_bad_plan" = some (some (.ref f_law_bad_plan))) (l_law_bad_plan : K.lookup f_law_bad_plan = some ⟨oc21, od_law_bad_plan, .func (PySem.W.fnOf "_law_bad_plan" "_law_bad_plan" (defArgs s_law_bad_plan) (defBody s_law_bad_plan) (defScope s_law_bad_plan) .none kV21 dc21 pm21 an_law_bad_plan cd21 ct21), sl_law_bad_plan⟩) (c_law_bad_plan : PySem.W.codeIn K cd21 "_law_bad_plan" = true) (k_law_bad_plan : PySem.W.keepIn K (.ref f_law_bad_plan) = true)
    (a_law_two_plans : PySem.W.nsIn K mainGlobals "_law_two_plans" = some (some (.ref f_law_two_plans))) (l_law_two_plans : K.lookup f_law_two_plans = some ⟨oc22, od_law_two_plans, .func (PySem.W.fnOf "_law_two_plans" "_law_two_plans" (defArgs s_law_two_plans) (defBody s_law_two_plans) (defScope s_law_two_plans) .none kV22 dc22 pm22 an_law_two_plans cd22 ct22), sl_law_two_plans⟩) (c_law_two_plans : PySem.W.codeIn K cd22 "_law_two_plans" = true) (k_law_two_plans : PySem.W.keepIn K (.ref f_law_two_plans) = true)
    (a_law : PySem.W.nsIn K mainGlobals "law" = some (some (.ref f_law))) (l_law : K.lookup f_law = some ⟨oc23, od_law, .func (PySem.W.fnOf "law" "law" (defArgs s_law) (defBody s_law) (defScope s_law) .none kV23 dc23 pm23 an_law (.ref cc) ct23), sl_law⟩) (c_law : PySem.W.codeIn K (.ref cc) "law" = true) (k_law : PySem.W.keepIn K (.ref f_law) = true)
    {x_PickError x_BadPlan x_BadPerson : Addr}
    (ea_PickError : PySem.W.nsIn K mainGlobals "PickError" = some (some (.ref x_PickError)))
    (esb_PickError : PySem.W.subIn K (.ref x_PickError) (.type "BaseException") = some true)
    (ety_PickError : PySem.W.typeIn K (.ref x_PickError) = some (.type "type"))
    (ehd_PickError : PySem.W.hasDictIn K x_PickError = true)
    (ekp_PickError : PySem.W.keepIn K (.ref x_PickError) = true)
    (eq_PickError : PySem.W.excIn K x_PickError [.type "ValueError", .type "Exception", .type "BaseException", .type "object"] "ValueError.__new__" = true)
    (ega_PickError : PySem.W.findIn K (.ref x_PickError) "__getattribute__" = some (some (.builtin "BaseException.__getattribute__")))
    (egt_PickError : PySem.W.findIn K (.ref x_PickError) "__getattr__" = some none)
    (eca_PickError : PySem.W.findIn K (.ref x_PickError) "__class__" = some (some (.builtin "object.__class__")))
    (emr_PickError : PySem.W.mroIn K x_PickError (.type "object") = some true)
    (ecp_PickError : PySem.W.subIn K (.ref x_PickError) (.ref x_PickError) = some true)
    (ea_BadPlan : PySem.W.nsIn K mainGlobals "BadPlan" = some (some (.ref x_BadPlan)))
    (esb_BadPlan : PySem.W.subIn K (.ref x_BadPlan) (.type "BaseException") = some true)
    (ety_BadPlan : PySem.W.typeIn K (.ref x_BadPlan) = some (.type "type"))
    (ehd_BadPlan : PySem.W.hasDictIn K x_BadPlan = true)
    (ekp_BadPlan : PySem.W.keepIn K (.ref x_BadPlan) = true)
    (eq_BadPlan : PySem.W.excIn K x_BadPlan [.type "ValueError", .type "Exception", .type "BaseException", .type "object"] "ValueError.__new__" = true)
    (ega_BadPlan : PySem.W.findIn K (.ref x_BadPlan) "__getattribute__" = some (some (.builtin "BaseException.__getattribute__")))
    (egt_BadPlan : PySem.W.findIn K (.ref x_BadPlan) "__getattr__" = some none)
    (eca_BadPlan : PySem.W.findIn K (.ref x_BadPlan) "__class__" = some (some (.builtin "object.__class__")))
    (emr_BadPlan : PySem.W.mroIn K x_BadPlan (.type "object") = some true)
    (ecp_BadPlan : PySem.W.subIn K (.ref x_BadPlan) (.ref x_PickError) = some true)
    (ea_BadPerson : PySem.W.nsIn K mainGlobals "BadPerson" = some (some (.ref x_BadPerson)))
    (esb_BadPerson : PySem.W.subIn K (.ref x_BadPerson) (.type "BaseException") = some true)
    (ety_BadPerson : PySem.W.typeIn K (.ref x_BadPerson) = some (.type "type"))
    (ehd_BadPerson : PySem.W.hasDictIn K x_BadPerson = true)
    (ekp_BadPerson : PySem.W.keepIn K (.ref x_BadPerson) = true)
    (eq_BadPerson : PySem.W.excIn K x_BadPerson [.type "ValueError", .type "Exception", .type "BaseException", .type "object"] "ValueError.__new__" = true)
    (ega_BadPerson : PySem.W.findIn K (.ref x_BadPerson) "__getattribute__" = some (some (.builtin "BaseException.__getattribute__")))
    (egt_BadPerson : PySem.W.findIn K (.ref x_BadPerson) "__getattr__" = some none)
    (eca_BadPerson : PySem.W.findIn K (.ref x_BadPerson) "__class__" = some (some (.builtin "object.__class__")))
    (emr_BadPerson : PySem.W.mroIn K x_BadPerson (.type "object") = some true)
    (ecp_BadPerson : PySem.W.subIn K (.ref x_BadPerson) (.ref x_PickError) = some true)
    (ehn : PySem.W.specialIn K (.builtin "object.__class__") "__get__" = some (some (.builtin "getset_descriptor.__get__")))
    (eht : PySem.W.takesIn K (.builtin "object.__class__") = some true)
    {PT : Addr} {occ : Value} {odc : Option Addr} {vsc : Array Value} {slc : Array (Option Value)} (lcc : K.lookup cc = some ⟨occ, odc, .fields vsc, slc⟩) (tcc : vsc[11]? = some (.ref PT)) (ncc : K.lookup PT = none)
    {t_LAST : Tok} (q_LAST : PySem.W.nsIn K mainGlobals "LAST" = some (some (.int 7 t_LAST)))
    (b_len : PySem.W.nsIn K mainGlobals "len" = some none) (b_isinstance : PySem.W.nsIn K mainGlobals "isinstance" = some none) (b_list : PySem.W.nsIn K mainGlobals "list" = some none) (b_tuple : PySem.W.nsIn K mainGlobals "tuple" = some none) (b_sorted : PySem.W.nsIn K mainGlobals "sorted" = some none) (b_range : PySem.W.nsIn K mainGlobals "range" = some none) (b_int : PySem.W.nsIn K mainGlobals "int" = some none) (b_bool : PySem.W.nsIn K mainGlobals "bool" = some none) (b_str : PySem.W.nsIn K mainGlobals "str" = some none) (b_dict : PySem.W.nsIn K mainGlobals "dict" = some none) (b_set : PySem.W.nsIn K mainGlobals "set" = some none) (b_abs : PySem.W.nsIn K mainGlobals "abs" = some none) (b_min : PySem.W.nsIn K mainGlobals "min" = some none) (b_max : PySem.W.nsIn K mainGlobals "max" = some none) (b_zip : PySem.W.nsIn K mainGlobals "zip" = some none) (b_enumerate : PySem.W.nsIn K mainGlobals "enumerate" = some none) (b_repr : PySem.W.nsIn K mainGlobals "repr" = some none) (b_sum : PySem.W.nsIn K mainGlobals "sum" = some none) (b_any : PySem.W.nsIn K mainGlobals "any" = some none) (b_all : PySem.W.nsIn K mainGlobals "all" = some none) :
    ∃ (fd : FuncData) (c P : Addr), PySem.W.tabIn K "law" = some (c, P) ∧ K.lookup P = none ∧ (∀ (s : Shared) (v : Value), BindsTo s fd ⟨[v], []⟩ [("script", v)]) ∧ ∀ base : Heap, K.In base → base.Ns mainGlobals mg → LamX.TabB base mg c P → FnG l.prog w K mg base true 11 fa fd ["script"] (spOf 1 (ctLawT K 63 P "law.<locals>.<lambda>")) := by
  have e := hfa.symm.trans (PySem.W.mg_of X G a_law)
  cases e
  have B : Bl mg := ⟨PySem.W.mg_none_of X G b_len, PySem.W.mg_none_of X G b_isinstance, PySem.W.mg_none_of X G b_list, PySem.W.mg_none_of X G b_tuple, PySem.W.mg_none_of X G b_sorted, PySem.W.mg_none_of X G b_range, PySem.W.mg_none_of X G b_int, PySem.W.mg_none_of X G b_bool, PySem.W.mg_none_of X G b_str, PySem.W.mg_none_of X G b_dict, PySem.W.mg_none_of X G b_set, PySem.W.mg_none_of X G b_abs, PySem.W.mg_none_of X G b_min, PySem.W.mg_none_of X G b_max, PySem.W.mg_none_of X G b_zip, PySem.W.mg_none_of X G b_enumerate, PySem.W.mg_none_of X G b_repr, PySem.W.mg_none_of X G b_sum, PySem.W.mg_none_of X G b_any, PySem.W.mg_none_of X G b_all⟩
  have T : Tc mg := ⟨⟨_, PySem.W.mg_of X G q_LAST⟩⟩
  have F_is_number := fun_mk (st := s_is_number) l_is_number c_is_number k_is_number
  have F_is_from := fun_mk (st := s_is_from) l_is_from c_is_from k_is_from
  have F_is_pair := fun_mk (st := s_is_pair) l_is_pair c_is_pair k_is_pair
  have F_are_apart := fun_mk (st := s_are_apart) l_are_apart c_are_apart k_are_apart
  have F_is_plan := fun_mk (st := s_is_plan) l_is_plan c_is_plan k_is_plan
  have F_need_plan := fun_mk (st := s_need_plan) l_need_plan c_need_plan k_need_plan
  have F_persons_of := fun_mk (st := s_persons_of) l_persons_of c_persons_of k_persons_of
  have F_hanging := fun_mk (st := s_hanging) l_hanging c_hanging k_hanging
  have F_within := fun_mk (st := s_within) l_within c_within k_within
  have F_kind_of := fun_mk (st := s_kind_of) l_kind_of c_kind_of k_kind_of
  have F_pieces := fun_mk (st := s_pieces) l_pieces c_pieces k_pieces
  have F_swapped := fun_mk (st := s_swapped) l_swapped c_swapped k_swapped
  have F_law_begun := fun_mk (st := s_law_begun) l_law_begun c_law_begun k_law_begun
  have F_law_draw := fun_mk (st := s_law_draw) l_law_draw c_law_draw k_law_draw
  have F_law_pick := fun_mk (st := s_law_pick) l_law_pick c_law_pick k_law_pick
  have F_law_mixed := fun_mk (st := s_law_mixed) l_law_mixed c_law_mixed k_law_mixed
  have F_law_caught := fun_mk (st := s_law_caught) l_law_caught c_law_caught k_law_caught
  have F_law_plan := fun_mk (st := s_law_plan) l_law_plan c_law_plan k_law_plan
  have F_law_any_plan := fun_mk (st := s_law_any_plan) l_law_any_plan c_law_any_plan k_law_any_plan
  have F_law_near_plan := fun_mk (st := s_law_near_plan) l_law_near_plan c_law_near_plan k_law_near_plan
  have F_law_bool_pair := fun_mk (st := s_law_bool_pair) l_law_bool_pair c_law_bool_pair k_law_bool_pair
  have F_law_bad_plan := fun_mk (st := s_law_bad_plan) l_law_bad_plan c_law_bad_plan k_law_bad_plan
  have F_law_two_plans := fun_mk (st := s_law_two_plans) l_law_two_plans c_law_two_plans k_law_two_plans
  have F_law := fun_mk (st := s_law) l_law c_law k_law
  have X_BadPlan : ErrC K mg "BadPlan" (clA K "BadPlan") (clA K "PickError") := by
    rw [clA_of ea_BadPlan, clA_of ea_PickError]
    exact errC_mk X G ea_BadPlan ekp_BadPlan eq_BadPlan esb_BadPlan ety_BadPlan ehd_BadPlan ega_BadPlan egt_BadPlan eca_BadPlan emr_BadPlan ecp_BadPlan ehn eht esb_PickError ehd_PickError ety_PickError
  have X_BadPerson : ErrC K mg "BadPerson" (clA K "BadPerson") (clA K "PickError") := by
    rw [clA_of ea_BadPerson, clA_of ea_PickError]
    exact errC_mk X G ea_BadPerson ekp_BadPerson eq_BadPerson esb_BadPerson ety_BadPerson ehd_BadPerson ega_BadPerson egt_BadPerson eca_BadPerson emr_BadPerson ecp_BadPerson ehn eht esb_PickError ehd_PickError ety_PickError
  have b_xis_number := F_is_number.binds (ps := ["thing"]) fun _ _ _ _ _ _ us hl => match us, hl with | [_], _ => rfl
  have b_xis_from := F_is_from.binds (ps := ["thing", "least", "most"]) fun _ _ _ _ _ _ us hl => match us, hl with | [_, _, _], _ => rfl
  have b_xis_pair := F_is_pair.binds (ps := ["thing"]) fun _ _ _ _ _ _ us hl => match us, hl with | [_], _ => rfl
  have b_xare_apart := F_are_apart.binds (ps := ["pairs"]) fun _ _ _ _ _ _ us hl => match us, hl with | [_], _ => rfl
  have b_xis_plan := F_is_plan.binds (ps := ["thing"]) fun _ _ _ _ _ _ us hl => match us, hl with | [_], _ => rfl
  have b_xneed_plan := F_need_plan.binds (ps := ["plan"]) fun _ _ _ _ _ _ us hl => match us, hl with | [_], _ => rfl
  have b_xpersons_of := F_persons_of.binds (ps := ["plan"]) fun _ _ _ _ _ _ us hl => match us, hl with | [_], _ => rfl
  have b_xhanging := F_hanging.binds (ps := ["pairs", "person"]) fun _ _ _ _ _ _ us hl => match us, hl with | [_, _], _ => rfl
  have b_xwithin := F_within.binds (ps := ["plan", "persons"]) fun _ _ _ _ _ _ us hl => match us, hl with | [_, _], _ => rfl
  have b_xkind_of := F_kind_of.binds (ps := ["one", "other"]) fun _ _ _ _ _ _ us hl => match us, hl with | [_, _], _ => rfl
  have b_xpieces := F_pieces.binds (ps := ["one", "other"]) fun _ _ _ _ _ _ us hl => match us, hl with | [_, _], _ => rfl
  have b_xswapped := F_swapped.binds (ps := ["one", "other", "person"]) fun _ _ _ _ _ _ us hl => match us, hl with | [_, _, _], _ => rfl
  have b_xlaw_begun := F_law_begun.binds (ps := ["script"]) fun _ _ _ _ _ _ us hl => match us, hl with | [_], _ => rfl
  have b_xlaw_draw := F_law_draw.binds (ps := ["state", "size_here"]) fun _ _ _ _ _ _ us hl => match us, hl with | [_, _], _ => rfl
  have b_xlaw_pick := F_law_pick.binds (ps := ["state", "several"]) fun _ _ _ _ _ _ us hl => match us, hl with | [_, _], _ => rfl
  have b_xlaw_mixed := F_law_mixed.binds (ps := ["state", "several"]) fun _ _ _ _ _ _ us hl => match us, hl with | [_, _], _ => rfl
  have b_xlaw_plan := F_law_plan.binds (ps := ["state", "many", "most"]) fun _ _ _ _ _ _ us hl => match us, hl with | [_, _, _], _ => rfl
  have b_xlaw_any_plan := F_law_any_plan.binds (ps := ["state", "most"]) fun _ _ _ _ _ _ us hl => match us, hl with | [_, _], _ => rfl
  have b_xlaw_near_plan := F_law_near_plan.binds (ps := ["state", "told"]) fun _ _ _ _ _ _ us hl => match us, hl with | [_, _], _ => rfl
  have b_xlaw_bool_pair := F_law_bool_pair.binds (ps := ["state", "pair"]) fun _ _ _ _ _ _ us hl => match us, hl with | [_, _], _ => rfl
  have b_xlaw_bad_plan := F_law_bad_plan.binds (ps := ["state"]) fun _ _ _ _ _ _ us hl => match us, hl with | [_], _ => rfl
  have b_xlaw_two_plans := F_law_two_plans.binds (ps := ["state"]) fun _ _ _ _ _ _ us hl => match us, hl with | [_], _ => rfl
  have kb_swapped_person_other_one : KBind _ ["one", "other", "person"] ["person", "other", "one"] [2, 1, 0] := kbind_of F_swapped fun _ _ _ _ _ _ ws hl => match ws, hl with | [_, _, _], _ => rfl
  have b_xlaw_caught := F_law_caught.binds (ps := ["work"]) fun _ _ _ _ _ _ us hl => match us, hl with | [_], _ => rfl
  have CL : CalL K mg (clA K "PickError") := ⟨s_law_caught, _, _, "PickError", F_law_caught, PySem.W.mg_of X G a_law_caught, k_law_caught, b_xlaw_caught, sc_law_caught, rfl, by rw [clA_of ea_PickError]; exact PySem.W.mg_of X G ea_PickError, by decide, Or.inl rfl, rfl, rfl, _, _, _, _, _, _, _, _, _, _, _, _, _, _, _, rfl⟩
  refine ⟨PySem.W.fnOf "law" "law" (defArgs s_law) (defBody s_law) (defScope s_law) .none kV23 dc23 pm23 an_law (.ref cc) ct23, cc, PT, tab_mk a_law l_law rfl lcc tcc, ncc, fun s v => .of_eq rfl, fun base _ _ TB => ?_⟩
  have G_is_number : FnG l.prog w K mg base false 2 _ _ _ _ := ok_is_number F_is_number B T
  have C_is_number : Cal l.prog w K mg base false 2 "is_number" _ _ _ := ⟨_, _, G_is_number, PySem.W.mg_of X G a_is_number, k_is_number, b_xis_number⟩
  have G_is_from : FnG l.prog w K mg base false 3 _ _ _ _ := ok_is_from F_is_from B T C_is_number
  have C_is_from : Cal l.prog w K mg base false 3 "is_from" _ _ _ := ⟨_, _, G_is_from, PySem.W.mg_of X G a_is_from, k_is_from, b_xis_from⟩
  have G_is_pair : FnG l.prog w K mg base false 4 _ _ _ _ := ok_is_pair F_is_pair B T C_is_from
  have C_is_pair : Cal l.prog w K mg base false 4 "is_pair" _ _ _ := ⟨_, _, G_is_pair, PySem.W.mg_of X G a_is_pair, k_is_pair, b_xis_pair⟩
  have G_are_apart : FnG l.prog w K mg base false 2 _ _ _ _ := ok_are_apart F_are_apart B T
  have C_are_apart : Cal l.prog w K mg base false 2 "are_apart" _ _ _ := ⟨_, _, G_are_apart, PySem.W.mg_of X G a_are_apart, k_are_apart, b_xare_apart⟩
  have G_is_plan : FnG l.prog w K mg base false 5 _ _ _ _ := ok_is_plan F_is_plan B T C_are_apart C_is_pair
  have C_is_plan : Cal l.prog w K mg base false 5 "is_plan" _ _ _ := ⟨_, _, G_is_plan, PySem.W.mg_of X G a_is_plan, k_is_plan, b_xis_plan⟩
  have G_need_plan : FnG l.prog w K mg base false 6 _ _ _ _ := ok_need_plan F_need_plan B T (cl := clA K) X_BadPlan C_is_plan
  have C_need_plan : Cal l.prog w K mg base false 6 "need_plan" _ _ _ := ⟨_, _, G_need_plan, PySem.W.mg_of X G a_need_plan, k_need_plan, b_xneed_plan⟩
  have G_persons_of : FnG l.prog w K mg base false 7 _ _ _ _ := ok_persons_of F_persons_of B T (cl := clA K) C_need_plan
  have C_persons_of : Cal l.prog w K mg base false 7 "persons_of" _ _ _ := ⟨_, _, G_persons_of, PySem.W.mg_of X G a_persons_of, k_persons_of, b_xpersons_of⟩
  have G_hanging : FnG l.prog w K mg base false 2 _ _ _ _ := ok_hanging F_hanging B T
  have C_hanging : Cal l.prog w K mg base false 2 "hanging" _ _ _ := ⟨_, _, G_hanging, PySem.W.mg_of X G a_hanging, k_hanging, b_xhanging⟩
  have G_within : FnG l.prog w K mg base false 2 _ _ _ _ := ok_within F_within B T
  have C_within : Cal l.prog w K mg base false 2 "within" _ _ _ := ⟨_, _, G_within, PySem.W.mg_of X G a_within, k_within, b_xwithin⟩
  have G_kind_of : FnG l.prog w K mg base false 2 _ _ _ _ := ok_kind_of F_kind_of B T
  have C_kind_of : Cal l.prog w K mg base false 2 "kind_of" _ _ _ := ⟨_, _, G_kind_of, PySem.W.mg_of X G a_kind_of, k_kind_of, b_xkind_of⟩
  have G_pieces : FnG l.prog w K mg base false 7 _ _ _ _ := ok_pieces F_pieces B T (cl := clA K) C_kind_of C_within C_hanging C_need_plan
  have C_pieces : Cal l.prog w K mg base false 7 "pieces" _ _ _ := ⟨_, _, G_pieces, PySem.W.mg_of X G a_pieces, k_pieces, b_xpieces⟩
  have G_swapped : FnG l.prog w K mg base false 8 _ _ _ _ := ok_swapped F_swapped B T (cl := clA K) X_BadPerson C_within C_hanging C_persons_of C_is_number C_need_plan
  have C_swapped : Cal l.prog w K mg base false 8 "swapped" _ _ _ := ⟨_, _, G_swapped, PySem.W.mg_of X G a_swapped, k_swapped, b_xswapped⟩
  have K_swapped_person_other_one : KCal l.prog w K mg base false 8 "swapped" _ _ _ _ _ := ⟨_, _, G_swapped, PySem.W.mg_of X G a_swapped, k_swapped, kb_swapped_person_other_one⟩
  have G_law_begun : FnG l.prog w K mg base false 2 _ _ _ _ := ok_law_begun F_law_begun B
  have C__law_begun : CalB l.prog w K mg base false 2 "_law_begun" _ := ⟨_, _, G_law_begun, PySem.W.mg_of X G a_law_begun, k_law_begun, b_xlaw_begun⟩
  have G_law_draw : FnG l.prog w K mg base false 2 _ _ _ _ := ok_law_draw F_law_draw B
  have C__law_draw : Cal l.prog w K mg base false 2 "_law_draw" _ _ _ := ⟨_, _, G_law_draw, PySem.W.mg_of X G a_law_draw, k_law_draw, b_xlaw_draw⟩
  have G_law_pick : FnG l.prog w K mg base false 3 _ _ _ _ := ok_law_pick F_law_pick B T C__law_draw
  have C__law_pick : Cal l.prog w K mg base false 3 "_law_pick" _ _ _ := ⟨_, _, G_law_pick, PySem.W.mg_of X G a_law_pick, k_law_pick, b_xlaw_pick⟩
  have G_law_mixed : FnG l.prog w K mg base false 3 _ _ _ _ := ok_law_mixed F_law_mixed B T C__law_draw
  have C__law_mixed : Cal l.prog w K mg base false 3 "_law_mixed" _ _ _ := ⟨_, _, G_law_mixed, PySem.W.mg_of X G a_law_mixed, k_law_mixed, b_xlaw_mixed⟩
  have G_law_plan : FnG l.prog w K mg base false 4 _ _ _ _ := ok_law_plan F_law_plan B T C__law_mixed
  have C__law_plan : Cal l.prog w K mg base false 4 "_law_plan" _ _ _ := ⟨_, _, G_law_plan, PySem.W.mg_of X G a_law_plan, k_law_plan, b_xlaw_plan⟩
  have G_law_any_plan : FnG l.prog w K mg base false 5 _ _ _ _ := ok_law_any_plan F_law_any_plan B T C__law_plan C__law_draw
  have C__law_any_plan : Cal l.prog w K mg base false 5 "_law_any_plan" _ _ _ := ⟨_, _, G_law_any_plan, PySem.W.mg_of X G a_law_any_plan, k_law_any_plan, b_xlaw_any_plan⟩
  have G_law_near_plan : FnG l.prog w K mg base false 4 _ _ _ _ := ok_law_near_plan F_law_near_plan B T C__law_pick C__law_draw
  have C__law_near_plan : Cal l.prog w K mg base false 4 "_law_near_plan" _ _ _ := ⟨_, _, G_law_near_plan, PySem.W.mg_of X G a_law_near_plan, k_law_near_plan, b_xlaw_near_plan⟩
  have G_law_bool_pair : FnG l.prog w K mg base false 4 _ _ _ _ := ok_law_bool_pair F_law_bool_pair B T C__law_pick
  have C__law_bool_pair : Cal l.prog w K mg base false 4 "_law_bool_pair" _ _ _ := ⟨_, _, G_law_bool_pair, PySem.W.mg_of X G a_law_bool_pair, k_law_bool_pair, b_xlaw_bool_pair⟩
  have G_law_bad_plan : FnG l.prog w K mg base false 5 _ _ _ _ := ok_law_bad_plan F_law_bad_plan B T C__law_pick C__law_bool_pair C__law_draw C__law_plan
  have C__law_bad_plan : Cal l.prog w K mg base false 5 "_law_bad_plan" _ _ _ := ⟨_, _, G_law_bad_plan, PySem.W.mg_of X G a_law_bad_plan, k_law_bad_plan, b_xlaw_bad_plan⟩
  have G_law_two_plans : FnG l.prog w K mg base false 6 _ _ _ _ := ok_law_two_plans F_law_two_plans B T C__law_any_plan C__law_mixed C__law_plan C__law_near_plan C__law_draw
  have C__law_two_plans : Cal l.prog w K mg base false 6 "_law_two_plans" _ _ _ := ⟨_, _, G_law_two_plans, PySem.W.mg_of X G a_law_two_plans, k_law_two_plans, b_xlaw_two_plans⟩
  have G_law : FnG l.prog w K mg base true 11 _ _ _ _ := ok_law F_law B T (cl := clA K) X_BadPerson X_BadPlan CL rfl TB C_swapped C__law_pick C__law_bad_plan C_pieces C_is_plan C__law_two_plans C__law_begun K_swapped_person_other_one
  exact G_law
end Pf
open PySem PySem.W PyProof.Rows
set_option maxRecDepth 100000 in
set_option maxHeartbeats 0 in
theorem PySem.Challenge.cw_pairpicks_k07_whole_swaps_are_plans_holds : PySem.Challenge.rw_pairpicks_k07_whole_swaps_are_plans.Holds := by
  w_on; o_law; k_head; (case hw => w_witness2)
  k_fill
  refine DL.law_walkT (qn := "law.<locals>.<lambda>") (gd := true) (l := PySem.Challenge.rw_pairpicks_k07_whole_swaps_are_plans) (n := 63) (k := 11) (x := "script") rfl (by decide) rfl ⟨rfl, by decide, by decide⟩ (fun w h Y => PySem.W.km_in_of Y) (by first | rfl | kernel_rfl) ?F
  case F =>
    intro w mg fa h KX G hmg
    refine' Pf.all_mk KX G hmg ?a_is_number ?l_is_number ?c_is_number ?k_is_number ?a_is_from ?l_is_from ?c_is_from ?k_is_from ?a_is_pair ?l_is_pair ?c_is_pair ?k_is_pair ?a_are_apart ?l_are_apart ?c_are_apart ?k_are_apart ?a_is_plan ?l_is_plan ?c_is_plan ?k_is_plan ?a_need_plan ?l_need_plan ?c_need_plan ?k_need_plan ?a_persons_of ?l_persons_of ?c_persons_of ?k_persons_of ?a_hanging ?l_hanging ?c_hanging ?k_hanging ?a_within ?l_within ?c_within ?k_within ?a_kind_of ?l_kind_of ?c_kind_of ?k_kind_of ?a_pieces ?l_pieces ?c_pieces ?k_pieces ?a_swapped ?l_swapped ?c_swapped ?k_swapped ?a_law_begun ?l_law_begun ?c_law_begun ?k_law_begun ?a_law_draw ?l_law_draw ?c_law_draw ?k_law_draw ?a_law_pick ?l_law_pick ?c_law_pick ?k_law_pick ?a_law_mixed ?l_law_mixed ?c_law_mixed ?k_law_mixed ?a_law_caught ?l_law_caught ?c_law_caught ?k_law_caught ?a_law_plan ?l_law_plan ?c_law_plan ?k_law_plan ?a_law_any_plan ?l_law_any_plan ?c_law_any_plan ?k_law_any_plan ?a_law_near_plan ?l_law_near_plan ?c_law_near_plan ?k_law_near_plan ?a_law_bool_pair ?l_law_bool_pair ?c_law_bool_pair ?k_law_bool_pair ?a_law_bad_plan ?l_law_bad_plan ?c_law_bad_plan ?k_law_bad_plan ?a_law_two_plans ?l_law_two_plans ?c_law_two_plans ?k_law_two_plans ?a_law ?l_law ?c_law ?k_law ?ea_PickError ?esb_PickError ?ety_PickError ?ehd_PickError ?ekp_PickError ?eq_PickError ?ega_PickError ?egt_PickError ?eca_PickError ?emr_PickError ?ecp_PickError ?ea_BadPlan ?esb_BadPlan ?ety_BadPlan ?ehd_BadPlan ?ekp_BadPlan ?eq_BadPlan ?ega_BadPlan ?egt_BadPlan ?eca_BadPlan ?emr_BadPlan ?ecp_BadPlan ?ea_BadPerson ?esb_BadPerson ?ety_BadPerson ?ehd_BadPerson ?ekp_BadPerson ?eq_BadPerson ?ega_BadPerson ?egt_BadPerson ?eca_BadPerson ?emr_BadPerson ?ecp_BadPerson ?ehn ?eht ?lcc ?tcc ?ncc ?q_LAST ?b_len ?b_isinstance ?b_list ?b_tuple ?b_sorted ?b_range ?b_int ?b_bool ?b_str ?b_dict ?b_set ?b_abs ?b_min ?b_max ?b_zip ?b_enumerate ?b_repr ?b_sum ?b_any ?b_all
    (case a_is_number => k_is); (case l_is_number => k_is); (case c_is_number => k_is); (case k_is_number => k_is); (case a_is_from => k_is); (case l_is_from => k_is); (case c_is_from => k_is); (case k_is_from => k_is); (case a_is_pair => k_is); (case l_is_pair => k_is); (case c_is_pair => k_is); (case k_is_pair => k_is); (case a_are_apart => k_is); (case l_are_apart => k_is); (case c_are_apart => k_is); (case k_are_apart => k_is); (case a_is_plan => k_is); (case l_is_plan => k_is); (case c_is_plan => k_is); (case k_is_plan => k_is); (case a_need_plan => k_is); (case l_need_plan => k_is); (case c_need_plan => k_is); (case k_need_plan => k_is); (case a_persons_of => k_is); (case l_persons_of => k_is); (case c_persons_of => k_is); (case k_persons_of => k_is); (case a_hanging => k_is); (case l_hanging => k_is); (case c_hanging => k_is); (case k_hanging => k_is); (case a_within => k_is); (case l_within => k_is); (case c_within => k_is); (case k_within => k_is); (case a_kind_of => k_is); (case l_kind_of => k_is); (case c_kind_of => k_is); (case k_kind_of => k_is); (case a_pieces => k_is); (case l_pieces => k_is); (case c_pieces => k_is); (case k_pieces => k_is); (case a_swapped => k_is); (case l_swapped => k_is); (case c_swapped => k_is); (case k_swapped => k_is); (case a_law_begun => k_is); (case l_law_begun => k_is); (case c_law_begun => k_is); (case k_law_begun => k_is); (case a_law_draw => k_is); (case l_law_draw => k_is); (case c_law_draw => k_is); (case k_law_draw => k_is); (case a_law_pick => k_is); (case l_law_pick => k_is); (case c_law_pick => k_is); (case k_law_pick => k_is); (case a_law_mixed => k_is); (case l_law_mixed => k_is); (case c_law_mixed => k_is); (case k_law_mixed => k_is); (case a_law_caught => k_is); (case l_law_caught => k_is); (case c_law_caught => k_is); (case k_law_caught => k_is); (case a_law_plan => k_is); (case l_law_plan => k_is); (case c_law_plan => k_is); (case k_law_plan => k_is); (case a_law_any_plan => k_is); (case l_law_any_plan => k_is); (case c_law_any_plan => k_is); (case k_law_any_plan => k_is); (case a_law_near_plan => k_is); (case l_law_near_plan => k_is); (case c_law_near_plan => k_is); (case k_law_near_plan => k_is); (case a_law_bool_pair => k_is); (case l_law_bool_pair => k_is); (case c_law_bool_pair => k_is); (case k_law_bool_pair => k_is); (case a_law_bad_plan => k_is); (case l_law_bad_plan => k_is); (case c_law_bad_plan => k_is); (case k_law_bad_plan => k_is); (case a_law_two_plans => k_is); (case l_law_two_plans => k_is); (case c_law_two_plans => k_is); (case k_law_two_plans => k_is); (case a_law => k_is); (case l_law => k_is); (case c_law => k_is); (case k_law => k_is); (case ea_PickError => k_is); (case esb_PickError => k_is); (case ety_PickError => k_is); (case ehd_PickError => k_is); (case ekp_PickError => k_is); (case eq_PickError => k_exc); (case ega_PickError => k_is); (case egt_PickError => k_is); (case eca_PickError => k_is); (case emr_PickError => k_is); (case ecp_PickError => first | k_is | rfl); (case ea_BadPlan => k_is); (case esb_BadPlan => k_is); (case ety_BadPlan => k_is); (case ehd_BadPlan => k_is); (case ekp_BadPlan => k_is); (case eq_BadPlan => k_exc); (case ega_BadPlan => k_is); (case egt_BadPlan => k_is); (case eca_BadPlan => k_is); (case emr_BadPlan => k_is); (case ecp_BadPlan => first | k_is | rfl); (case ea_BadPerson => k_is); (case esb_BadPerson => k_is); (case ety_BadPerson => k_is); (case ehd_BadPerson => k_is); (case ekp_BadPerson => k_is); (case eq_BadPerson => k_exc); (case ega_BadPerson => k_is); (case egt_BadPerson => k_is); (case eca_BadPerson => k_is); (case emr_BadPerson => k_is); (case ecp_BadPerson => first | k_is | rfl); (case ehn => k_is); (case eht => k_is); (case lcc => k_is); (case tcc => rfl); (case ncc => kernel_rfl); (case q_LAST => k_is); (case b_len => k_is); (case b_isinstance => k_is); (case b_list => k_is); (case b_tuple => k_is); (case b_sorted => k_is); (case b_range => k_is); (case b_int => k_is); (case b_bool => k_is); (case b_str => k_is); (case b_dict => k_is); (case b_set => k_is); (case b_abs => k_is); (case b_min => k_is); (case b_max => k_is); (case b_zip => k_is); (case b_enumerate => k_is); (case b_repr => k_is); (case b_sum => k_is); (case b_any => k_is); (case b_all => k_is)
