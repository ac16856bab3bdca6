import PyProof.Rows.All
import Wide.All
import OpenK.AllK
import Wide.FinOn
import HandS.ForMost
import HandS.ForExc
import PyProof.ReprRoads
import PyProof.ReprText
import HandS.Lambda
import HandS.ExcInit
import HandS.ExcOwn
import HandS.ExcField
import HandS.IsInst
import HandS.Small
import KE.KExcIs
import HandS.Conv
import HandS.TupAny
import HandS.TupMul
import KE.KTupSum
import HandS.AnyAll
import HandS.EndTab
import PyProof.ConsumeS
import PyProof.SumAny
import HandS.GenList
import HandS.Zip
import KE.GoesEnum
import KE.GoesMore
import HandS.Iter
import HandS.Wide
import HandS.SetFor
import HandS.Strs
import HandS.Defaults
import PySem.Challenge.RW_besthours_k00_days_hours_and_sets
set_option Elab.async false
set_option linter.all false
set_option maxRecDepth 100000
set_option maxHeartbeats 4000000
/-! KitA: values as plain data (Rep), repr of them, a call's promise that knows of no repr under way (FnG). -/
namespace BK
open PySem PySem.Spec PyProof.Rows L2

/-! ### a value that stands for plain data -/
mutual
inductive Rep (K : PySem.W.Frag) (H : Hp) : V → PyData → Prop
  | non : Rep K H .non .none
  | bl (b : Bool) : Rep K H (.bl b) (.bool b)
  | int (i : Int) : Rep K H (.int i) (.int i)
  | str (x : Str) : Rep K H (.str x) (.str x)
  | lst {a : Addr} {xs : List V} {ds : List PyData} (h : SqL K H a xs) (r : RepAll K H xs ds) : Rep K H (.ref a) (.list ds)
  | tup {a : Addr} {xs : List V} {ds : List PyData} (h : SqT K H a xs) (r : RepAll K H xs ds) : Rep K H (.ref a) (.tuple ds)
inductive RepAll (K : PySem.W.Frag) (H : Hp) : List V → List PyData → Prop
  | nil : RepAll K H [] []
  | cons {x : V} {d : PyData} {xs : List V} {ds : List PyData} (h : Rep K H x d) (r : RepAll K H xs ds) : RepAll K H (x :: xs) (d :: ds)
end
theorem rd_same {H H' : Hp} {a : Addr} {u : HO} (e : Same H H') (h : Rd H a u) : Rd H' a u := by
  rcases h with h | ⟨o, h⟩
  · exact Or.inl (e a _ h)
  · exact Or.inr ⟨o, e a _ h⟩
theorem sql_same {K : PySem.W.Frag} {H H' : Hp} {a : Addr} {xs : List V} (e : Same H H') (h : SqL K H a xs) : SqL K H' a xs := by
  rcases h with h | h
  · exact Or.inl (rd_same e h)
  · exact Or.inr h
theorem sqt_same {K : PySem.W.Frag} {H H' : Hp} {a : Addr} {xs : List V} (e : Same H H') (h : SqT K H a xs) : SqT K H' a xs := by
  rcases h with h | h
  · exact Or.inl (rd_same e h)
  · exact Or.inr h
mutual
theorem Rep.same {K : PySem.W.Frag} {H H' : Hp} (e : Same H H') : ∀ {v : V} {d : PyData}, Rep K H v d → Rep K H' v d
  | _, _, .non => .non
  | _, _, .bl b => .bl b
  | _, _, .int i => .int i
  | _, _, .str x => .str x
  | _, _, .lst h r => .lst (sql_same e h) (RepAll.same e r)
  | _, _, .tup h r => .tup (sqt_same e h) (RepAll.same e r)
theorem RepAll.same {K : PySem.W.Frag} {H H' : Hp} (e : Same H H') : ∀ {vs : List V} {ds : List PyData}, RepAll K H vs ds → RepAll K H' vs ds
  | _, _, .nil => .nil
  | _, _, .cons h r => .cons (Rep.same e h) (RepAll.same e r)
end
mutual
theorem Rep.noDict {K : PySem.W.Frag} {H : Hp} : ∀ {v : V} {d : PyData}, Rep K H v d → d.hasDict = false
  | _, _, .non => by simp only [PyData.hasDict]
  | _, _, .bl b => by simp only [PyData.hasDict]
  | _, _, .int i => by simp only [PyData.hasDict]
  | _, _, .str x => by simp only [PyData.hasDict]
  | _, _, .lst h r => by simp only [PyData.hasDict, RepAll.noDict r]
  | _, _, .tup h r => by simp only [PyData.hasDict, RepAll.noDict r]
theorem RepAll.noDict {K : PySem.W.Frag} {H : Hp} : ∀ {vs : List V} {ds : List PyData}, RepAll K H vs ds → PyData.hasDictAll ds = false
  | _, _, .nil => by simp only [PyData.hasDictAll]
  | _, _, .cons h r => by simp only [PyData.hasDictAll, Rep.noDict h, RepAll.noDict r, Bool.or_self]
end
theorem RepAll.length {K : PySem.W.Frag} {H : Hp} : ∀ {vs : List V} {ds : List PyData}, RepAll K H vs ds → vs.length = ds.length
  | _, _, .nil => rfl
  | _, _, .cons h r => congrArg Nat.succ (RepAll.length r)
theorem RepAll.append {K : PySem.W.Frag} {H : Hp} : ∀ {vs us : List V} {ds es : List PyData}, RepAll K H vs ds → RepAll K H us es → RepAll K H (vs ++ us) (ds ++ es)
  | _, _, _, _, .nil, h => h
  | _, _, _, _, .cons a r, h => .cons a (RepAll.append r h)
theorem RepAll.ints {K : PySem.W.Frag} {H : Hp} : ∀ (ns : List Int), RepAll K H (ns.map V.int) (ns.map PyData.int)
  | [] => .nil
  | n :: ns => .cons (.int n) (RepAll.ints ns)
section
variable {X : Cx} {pins : List (Addr × Obj)} {σ : L2.St} {H : Hp} {s : Shared}
mutual
theorem reads_of (I : Inv X pins σ H s) : ∀ {v : V} {d : PyData} {u : Value}, Rep X.K H v d → RelV v u → ∃ as, Reads s.heap u d as
  | _, _, _, .non, r => by cases r; exact ⟨_, .none⟩
  | _, _, _, .bl b, r => by cases r; exact ⟨_, .bool b⟩
  | _, _, _, .int i, r => by obtain ⟨t, rfl⟩ := r; exact ⟨_, .int i t⟩
  | _, _, _, .str x, r => by obtain ⟨t, rfl⟩ := r; exact ⟨_, .str x t⟩
  | _, _, _, .lst h ra, r => by
    cases r
    obtain ⟨its, rv, ⟨o, n, e1, e2, e3, e4⟩, _⟩ := I.list h
    obtain ⟨as, q⟩ := readsAll_of I ra rv
    exact ⟨_, .list e1 e2 e4 q⟩
  | _, _, _, .tup h ra, r => by
    cases r
    obtain ⟨its, rv, ⟨o, e1, e2, n, e4⟩, _⟩ := I.tuple h
    obtain ⟨as, q⟩ := readsAll_of I ra rv
    exact ⟨_, .tuple e1 e2 e4 q⟩
theorem readsAll_of (I : Inv X pins σ H s) : ∀ {vs : List V} {ds : List PyData} {us : List Value}, RepAll X.K H vs ds → Vals vs us → ∃ as, ReadsAll s.heap us ds as
  | _, _, _, .nil, .nil => ⟨_, .nil⟩
  | _, _, _, .cons h ra, .cons r rr => by
    obtain ⟨as, q⟩ := reads_of I h r
    obtain ⟨bs, q2⟩ := readsAll_of I ra rr
    exact ⟨_, .cons q q2⟩
end
/-- what is said of data that is to be shown: n bounds its text -/
structure Fine (d : PyData) (n : Nat) : Prop where
  sh : d.showable = true
  len : d.shown.length ≤ n
  dep : d.depth ≤ n
theorem Fine.mono {d : PyData} {n m : Nat} (h : Fine d n) (e : n ≤ m) : Fine d m := ⟨h.sh, Nat.le_trans h.len e, Nat.le_trans h.dep e⟩
/-- repr(v), v a list or a tuple -/
theorem call_repr (hg : X.A.guards = some []) (hu : X.A.units + 110 < cLine) :
    CallR X (.builtin "repr") (fun xs H Q => ∃ (a : Addr) (d : PyData) (n : Nat), xs = [.ref a] ∧ Rep X.K H (.ref a) d ∧ Fine d n ∧ n ≤ 16777216 ∧ d.depth ≤ 100 ∧ Q (.str d.shown) H) := by
  intro pins s σ H xs us Q I r h
  obtain ⟨a, d, n, rfl, hr, hf, hn, hd, q⟩ := h
  cases r with
  | cons rx rr =>
    cases rr
    obtain rfl : _ = Value.ref a := rx
    obtain ⟨as, hR⟩ := reads_of I hr rfl
    have hsz : d.shown.length ≤ sizeLine := Nat.le_trans hf.len (by rw [sizeLine_eq]; exact hn)
    refine repr_of_reads' hR hf.sh (PyData.noDict_hsm hr.noDict) hg (by omega) (fun _ _ e => e) (fun h' u tk hk => ?_) hsz
    exact ⟨.str d.shown, H, I.kept (t' := tk) hk, ⟨u, rfl⟩, q⟩
end
/-! ### bounds of texts -/
theorem fine_non : Fine .none 5 := ⟨rfl, by decide +kernel, by decide⟩
theorem fine_bl (b : Bool) : Fine (.bool b) 5 := ⟨rfl, by cases b <;> decide +kernel, by simp [PyData.depth]⟩
theorem fine_int {i : Int} (h : i.natAbs < 10 ^ 10) : Fine (.int i) 11 := by
  refine ⟨?_, ?_, by simp [PyData.depth]⟩
  · simp only [PyData.showable, decide_eq_true_eq]
    have h1 : i.natAbs.log2 ≤ (10 ^ 10 : Nat).log2 := by
      by_cases hz : i.natAbs = 0
      · rw [hz]; decide
      · exact (Nat.le_log2 (by decide)).2 (Nat.le_trans (Nat.log2_self_le hz) (Nat.le_of_lt h))
    have h2 : (10 ^ 10 : Nat).log2 < 1920 := by decide +kernel
    omega
  · rw [PyData.shown_int, PySem.ofString_length]
    exact int_text_length_le10 (k := 10) (by decide) h
theorem fine_all {m : Nat} : ∀ {ds : List PyData}, (∀ d ∈ ds, Fine d m) → PyData.showableAll ds = true ∧ ((PyData.shownAll ds).map (·.length)).sum ≤ ds.length * m ∧ PyData.depthAll ds ≤ m
  | [], _ => ⟨by simp only [PyData.showableAll], by simp [PyData.shownAll], by simp [PyData.depthAll]⟩
  | d :: ds, h => by
    obtain ⟨a, b, c⟩ := fine_all (m := m) (ds := ds) fun x hx => h x (List.mem_cons_of_mem _ hx)
    have h0 := h d (List.mem_cons_self ..)
    refine ⟨by simp only [PyData.showableAll, h0.sh, a, Bool.and_self], ?_, ?_⟩
    · simp only [PyData.shownAll, List.map_cons, List.sum_cons, List.length_cons]
      have := h0.len
      rw [Nat.add_mul]
      omega
    · simp only [PyData.depthAll]
      exact Nat.max_le.2 ⟨h0.dep, c⟩
theorem fine_list {ds : List PyData} {m n : Nat} (h : ∀ d ∈ ds, Fine d m) (e : ds.length * m + ds.length * 2 + 4 + m ≤ n) : Fine (.list ds) n := by
  obtain ⟨a, b, c⟩ := fine_all h
  refine ⟨by simp only [PyData.showable]; exact a, ?_, by simp only [PyData.depth]; omega⟩
  rw [PyData.shown_list, Str.length_append, Str.length_append]
  have j := StrLaws.join_length_le (", " : Str) (PyData.shownAll ds)
  rw [PyData.shownAll_length] at j
  have l1 : ((", " : String) : Str).length = 2 := by decide +kernel
  have l2 : (("[" : String) : Str).length = 1 := by decide +kernel
  have l3 : (("]" : String) : Str).length = 1 := by decide +kernel
  rw [l1] at j
  rw [l2, l3]
  omega
theorem fine_tup {ds : List PyData} {m n : Nat} (h : ∀ d ∈ ds, Fine d m) (e : ds.length * m + ds.length * 2 + 4 + m ≤ n) : Fine (.tuple ds) n := by
  obtain ⟨a, b, c⟩ := fine_all h
  refine ⟨by simp only [PyData.showable]; exact a, ?_, by simp only [PyData.depth]; omega⟩
  rw [PyData.shown_tuple, Str.length_append, Str.length_append]
  have j := StrLaws.join_length_le (", " : Str) (PyData.shownAll ds)
  rw [PyData.shownAll_length] at j
  have l1 : ((", " : String) : Str).length = 2 := by decide +kernel
  have l2 : (("(" : String) : Str).length = 1 := by decide +kernel
  have l3 : (Str.ofString (if ds.length == 1 then ",)" else ")" : String)).length ≤ 2 := by split <;> decide +kernel
  rw [l1] at j
  rw [l2]
  omega
end BK
set_option Elab.async false
set_option linter.all false
set_option maxRecDepth 100000
set_option maxHeartbeats 4000000
/-! KitE: promises of defs that are called where no repr is under way, and their calls. -/
namespace BK
open PySem PySem.Spec PyProof.Rows L2
/-- as FnOk, wherever the guards of repr are known to be none; nothing is raised -/
structure FnG (P : Program) (w : World) (K : PySem.W.Frag) (mg : Str → Option Value) (base : Heap) (k : Nat) (f : Addr) (fd : FuncData) (ps : List Str) (sp : Sp) : Prop where
  len : ∀ vs H Q E, sp vs H Q E → vs.length = ps.length
  run : ∀ (A : Around) (outer : List Env) (s : Shared) (H : Hp) (args : Args) (us : List Value) (vs : List V) (Q : VK) (E : XK),
    A.guards = some [] → Room k A → Env0 P w K mg base A outer s H → BindsTo s fd args (ps.zip us) → Vals vs us → sp vs H Q E → codeAny (model P w) A (.call (.ref f) args) (CR CX0 outer P w H s Q E) s
theorem FnG.of {P : Program} {w : World} {K : PySem.W.Frag} {mg : Str → Option Value} {base : Heap} {k : Nat} {f : Addr} {fd : FuncData} {ps : List Str} {sp : Sp} (F : FnOk P w K mg base CX0 k f fd ps sp) : FnG P w K mg base k f fd ps sp :=
  ⟨F.len, fun A outer s H args us vs Q E _ => F.run A outer s H args us vs Q E⟩
theorem fun_okG {P : Program} {w : World} {K : PySem.W.Frag} {mg : Str → Option Value} {base : Heap} {x qual : Str} {st : Stmt} {f : Addr} {fd : FuncData} {N ps : List Str} {k : Nat} {sp : Sp}
    (F : Fun K x qual st f fd) (S : FnScope N ps (defScope st)) (len : ∀ vs H Q E, sp vs H Q E → vs.length = ps.length)
    (hbody : ∀ (cdv : Value) (A : Around) (outer : List Env) (s : Shared) (H : Hp) (vs : List V) (Q : VK) (E : XK), A.guards = some [] → Room k (A.deeper (envOfC qual (defScope st) s.heap.objs.size f cdv)) → sp vs H Q E →
      ∃ t, PSs (cxOf CX0 P w K mg base N qual (defScope st) f cdv A outer s H E).nox (defBody st) t ∧ t { nx := fun _ H' => Q .non H', rt := Q } (L2.start N vs) H) : FnG P w K mg base (k + 1) f fd ps sp := by
  obtain ⟨oc, od, kV, doc, pm, an, cdv, ct, osl, rfl, lk, hcd⟩ := F.ex
  constructor
  · exact len
  · intro A outer s H args us vs Q E hgd hr e0 hb r hsp
    apply LamX.run_ofS lk hcd S hr e0 hb r (len _ _ _ _ hsp)
    intro hr'
    obtain ⟨t, ht, hq⟩ := hbody cdv A outer s H vs Q E hgd hr' hsp
    exact ⟨t, ht.nox, hq⟩
section
variable {X : Cx} {k : Nat} {f : Addr} {fd : FuncData} {ps : List Str} {sp : Sp} {E : XK} {x : Str} {p pos : Pos} {e : Expr} {es : List Expr} {t : TA}
theorem run_fnG {pins : List (Addr × Obj)} {σ : L2.St} {H : Hp} {s : Shared} {Q : VK} {us : List Value} {vs : List V} (F : FnG X.prog X.w X.K X.mg X.base k f fd ps sp) (hgd : X.A.guards = some []) (hr : Room k X.A) (hb : Binds X.K fd ps [])
    (I : Inv X pins σ H s) (r : Vals vs us) (h : sp vs H Q E) : wpAny (model X.prog X.w) X.A (call (.ref f) us) (EP X pins σ Q) X.xe s := by
  have many : us.length = ps.length := r.length.symm.trans (F.len _ _ _ _ h)
  have bound : BindsTo s fd ⟨us, []⟩ (ps.zip us) := by
    have b := hb s us I.kIn ((congrArg List.length (List.append_nil us)).trans many)
    rwa [List.append_nil] at b
  apply wpAny_call
  apply codeAny_mono (F.run X.A X.stack s H ⟨us, []⟩ us vs Q E hgd hr I.env0 bound r h)
  intro res s' q
  match res, q with
  | .ok (.ret _), q => exact I.after q
  | .ok .next, q => exact (show False from q).elim
  | .ok .brk, q => exact (show False from q).elim
  | .ok .cont, q => exact (show False from q).elim
  | .error _, q => exact (show False from q).elim
def tCallG (sp : Sp) (t : TA) : TE := fun σ H Q => t σ H fun vs H1 => sp vs H1 Q E0
theorem pe_callG (F : FnG X.prog X.w X.K X.mg X.base k f fd ps sp) (hgd : X.A.guards = some []) (hr : Room k X.A) (hg : Gl X x) (hm : X.mg x = some (.ref f)) (hk : PySem.W.keepIn X.K (.ref f) = true) (hb : Binds X.K fd ps [])
    (ha : PA X (e :: es) t) (hdb : (x == ("__debug__" : Str)) = false := by decide) (he : starEach (e :: es) X.env = (false, eval e X.env) :: starEach es X.env := by rfl) (hpl : (backTo pos (starEach es X.env)).any (·.1) = false := by rfl) :
    PE X (.Call (.Name x p) (e :: es) [] pos) (tCallG sp t) := by
  constructor
  intro pins s σ H Q I h
  apply wpAny_Call_Name_kw
  apply ld_glob I hg hm _ hdb
  apply PySem.W.callWith_K (h₀ := X.base) I.ok.mod.kin hk _ he hpl
  apply thn (ha.run pos pins s σ H _ I h)
  intro us s1 came
  obtain ⟨vs, H1, I1, r, q⟩ := came
  exact ⟨I1.kIn, run_fnG F hgd hr hb I1 r q⟩
theorem pe_callG0 (F : FnG X.prog X.w X.K X.mg X.base k f fd ps sp) (hgd : X.A.guards = some []) (hr : Room k X.A) (hg : Gl X x) (hm : X.mg x = some (.ref f)) (hk : PySem.W.keepIn X.K (.ref f) = true) (hb : Binds X.K fd ps [])
    (hdb : (x == ("__debug__" : Str)) = false := by decide) : PE X (.Call (.Name x p) [] [] pos) (tCallG sp tNil) := by
  constructor
  intro pins s σ H Q I h
  apply wpAny_Call_Name_kw
  apply ld_glob I hg hm _ hdb
  exact PySem.W.callWith_K0 I.kIn hk (run_fnG (us := []) F hgd hr hb I .nil h)
end
end BK
set_option Elab.async false
set_option linter.all false
set_option maxRecDepth 100000
set_option maxHeartbeats 4000000
/-! KitB: several except clauses that all give the error the same name. -/
namespace BK
open PySem PySem.Spec PyProof.Rows L2
/-- the ends of a suite: the name at slot i is gone behind it -/
abbrev Gone (i : Nat) (D : Ends) : Ends :=
  ⟨fun σ H => D.nx (σ.set i none) H, D.rt, fun σ H => D.bk (σ.set i none) H, fun σ H => D.ct (σ.set i none) H⟩
abbrev Suite := Addr → Value → Option Addr → TS
/-- the clauses' wish, one after the other; len: how many slots there are -/
def wManyA (K : PySem.W.Frag) (len i : Nat) (Wout : WX) (D : Ends) : List (Value × Suite) → WX
  | [] => Wout
  | q :: r => fun cls d σ H => ∃ b, PySem.W.exmOne K cls q.1 = some b ∧
      (b = true → σ.length = len → ∀ a, H a = none → q.2 a cls d (Gone i D) (σ.set i (some (.ref a))) H) ∧
      (b = false → wManyA K len i Wout D r cls d σ H)
inductive HdsA (X : Cx) (n : Str) : List ExceptHandler → List (Value × Suite) → Prop
  | nil : HdsA X n [] []
  | cons {x : Str} {c : Value} {ts : Suite} {b₀ : Stmt} {suite : List Stmt} {np hp : Pos} {hds : List ExceptHandler} {l : List (Value × Suite)}
      (named : Names X x c)
      (does : ∀ (a : Addr) (oe : Obj) (cls : Value) (d : Option Addr) (pn : List (Addr × Obj)), Zc cls d oe → (∃ vs, oe.data = .fields vs) → PSs (X.suite a ((a, oe) :: pn)) (b₀ :: suite) (ts a cls d))
      (more : HdsA X n hds l) : HdsA X n (.ExceptHandler (some (.Name x np)) (some n) (b₀ :: suite) hp :: hds) ((c, ts) :: l)
/-- an error of the body, come down to the clauses: its object at a, the state s3; sI is the state without it, B the ground -/
structure Lies (X : Cx) (pins : List (Addr × Obj)) (σ : L2.St) (H : Hp) (a : Addr) (cls : Value) (d : Option Addr) (B : Heap) (sI s3 : Shared) : Prop where
  inv : Inv X pins σ H sI
  gr : ∀ b o, sI.heap.get? b = some o → b ∉ frs X.stack → B.get? b = some o
  up : sI.heap.UpToSlots s3.heap
  fly : HandSPX.FlyingZ B (X.env :: X.outer) a (Zc cls d) s3.heap
  free : H a = none
  os : s3.os = sI.os
  bare : AllBare s3.gens
section
variable {X : Cx} {pins : List (Addr × Obj)} {σ : L2.St} {H : Hp} {a : Addr} {cls : Value} {d : Option Addr} {B : Heap} {sI s3 : Shared}
theorem Lies.here (L : Lies X pins σ H a cls d B sI s3) : Inv X pins σ H s3 := L.inv.landed L.gr L.fly.1 L.up L.os L.bare
/-- further on, the heap but for slots as it was -/
theorem Lies.on (L : Lies X pins σ H a cls d B sI s3) {h : Heap} (u : s3.heap.UpToSlots h) (f : HandSPX.FlyingZ B (X.env :: X.outer) a (Zc cls d) h) : Lies X pins σ H a cls d B sI { s3 with heap := h } :=
  { inv := L.inv, gr := L.gr, up := L.up.trans u, fly := f, free := L.free, os := L.os, bare := L.bare }
/-- its object is no frame's -/
theorem Lies.apart (L : Lies X pins σ H a cls d B sI s3) (hf : X.env.frame = some X.env.locals) : a ≠ X.env.locals ∧ a ∉ X.fs := by
  obtain ⟨oe, vs, e1, _, e2⟩ := L.fly.there
  have no : a ∉ frs (X.env :: X.outer) := by
    intro hm
    obtain ⟨_, u, eu, nf⟩ := (show s3.heap.FunFrames B (X.env :: X.outer) from L.fly.2.2.1).mem hm
    have same : oe = u := Option.some.inj (e1.symm.trans eu)
    exact nf vs (same ▸ e2)
  constructor
  · intro z
    exact no (List.mem_filterMap.mpr ⟨X.env, List.mem_cons_self, hf.trans (by rw [z])⟩)
  · intro hm
    obtain ⟨env, henv, q⟩ := List.mem_filterMap.mp hm
    exact no (List.mem_filterMap.mpr ⟨env, List.mem_cons_of_mem _ henv, q⟩)
/-- it lies in a suite's context, its object known -/
theorem Lies.inSuite (L : Lies X pins σ H a cls d B sI s3) (hf : X.env.frame = some X.env.locals) :
    ∃ oe : Obj, Zc cls d oe ∧ (∃ vs, oe.data = .fields vs) ∧ s3.heap.get? a = some oe ∧ Inv (X.suite a ((a, oe) :: (X.pn ++ pins))) [] σ H s3 := by
  obtain ⟨oe, vs, e1, z, e2⟩ := L.fly.there
  obtain ⟨n1, n2⟩ := L.apart hf
  exact ⟨oe, z, ⟨vs, e2⟩, e1, L.here.suite e1 e2 L.free n1 n2⟩
variable {n : Str} {i : Nat} {Wout : WX} {D : Ends}
/-- no clause is left: it goes up -/
theorem clauses_out (hs : X.stack = X.env :: X.outer) (hf : X.env.frame = some X.env.locals) (tk : Takes X Wout) (L : Lies X pins σ H a cls d B sI s3) (w : Wout cls d σ H) :
    wpAny (model X.prog X.w) X.A (handleBy (.ref a) X.env []) (SP X pins D) X.xe s3 := by
  apply wpAny_handleBy_nil
  obtain ⟨_, _, _, oe, vs, T, oT, ts, e1, _, e2, e3, _⟩ := id L.fly
  unfold PySem.passOn
  apply wpAny_bind
  apply wpAny_field e1 e2 e3
  have ne : ¬ (Value.ref T == Value.none) = true := by simp
  rw [if_neg ne]
  have up : wpAny (model X.prog X.w) X.A (setFlight (.ref a) X.env.frame) (fun _ s4 => wpAny (model X.prog X.w) X.A (throw (.ref a) : Sem Flow) (SP X pins D) X.xe s4) X.xe s3 := by
    rw [hf]
    apply HandSPX.setFlight_upZ L.fly
    intro h4 held u4
    apply wpAny_throw
    apply tk
    refine ⟨a, B, sI, pins, σ, H, cls, d, rfl, L.inv, L.gr, L.up.trans u4, ?_, L.free, L.os, L.bare, w⟩
    rw [hs]
    exact .inr (.inr held)
  first
    | exact wpAny_bind up
    | exact wpAny_bind (wpAny_pure (wpAny_bind up))
/-- the suite of the clause that takes it, then the name goes -/
theorem clauses_in {b₀ : Stmt} {suite : List Stmt} {ts : Suite} {hp : Pos} (hf : X.env.frame = some X.env.locals) (hN : X.N.Nodup) (hi : X.N[i]? = some n) (hln : X.env.kindOf n = some .local)
    (does : ∀ (a : Addr) (oe : Obj) (cls : Value) (d : Option Addr) (pn : List (Addr × Obj)), Zc cls d oe → (∃ vs, oe.data = .fields vs) → PSs (X.suite a ((a, oe) :: pn)) (b₀ :: suite) (ts a cls d))
    (L : Lies X pins σ H a cls d B sI s3) (w : ts a cls d (Gone i D) (σ.set i (some (.ref a))) H) {E1 E2 : Value → Shared → Prop} :
    wpAny (model X.prog X.w) (X.A.mark (some (.ref a))) (storeName X.env n (.ref a)) (fun _ s4 => wpAny (model X.prog X.w) (X.A.mark (some (.ref a))) (execs (b₀ :: suite) X.env)
      (fun f s5 => wpAny (model X.prog X.w) X.A (do bindName X.env n .none; unbindBehindTheSuite X.env n hp) (fun _ s6 => SP X pins D f s6) X.xe s5) E2 s4) E1 s3 := by
  obtain ⟨oe, z, dt, _, S⟩ := L.inSuite hf
  apply store_ok (X := X.suite a ((a, oe) :: (X.pn ++ pins))) (v := .ref a) S hN hi (.inl hln) rfl (hf := .inr hln)
  intro s4 S4
  have run := (does a oe cls d (X.pn ++ pins) z dt).run [] s4 _ H (Gone i D) S4 w
  apply wpAny_mono run
  · intro f s5 q
    have fin : ∀ {σ5 : L2.St} {H5 : Hp} {Q : Shared → Prop}, Inv (X.suite a ((a, oe) :: (X.pn ++ pins))) [] σ5 H5 s5 → (∀ s6, Inv X pins (σ5.set i none) H5 s6 → Q s6) →
        wpAny (model X.prog X.w) X.A (do bindName X.env n .none; unbindBehindTheSuite X.env n hp) (fun _ s6 => Q s6) X.xe s5 := by
      intro σ5 H5 Q S5 k
      exact gone_ok (S5.unsuite L.inv.ok) hN hi hln k
    match f, q with
    | .next, ⟨_, _, S5, q5⟩ => exact fin S5 fun _ J => ⟨_, _, J, q5⟩
    | .brk, ⟨_, _, S5, q5⟩ => exact fin S5 fun _ J => ⟨_, _, J, q5⟩
    | .cont, ⟨_, _, S5, q5⟩ => exact fin S5 fun _ J => ⟨_, _, J, q5⟩
    | .ret _, ⟨_, _, _, S5, r5, q5⟩ => exact fin S5 fun _ J => ⟨_, _, _, J, r5, q5⟩
  · intro _ _ no
    exact no.elim
/-- all clauses -/
theorem clauses_all (hs : X.stack = X.env :: X.outer) (hf : X.env.frame = some X.env.locals) (hN : X.N.Nodup) (hi : X.N[i]? = some n) (hln : X.env.kindOf n = some .local) (tk : Takes X Wout) :
    ∀ {hds : List ExceptHandler} {l : List (Value × Suite)}, HdsA X n hds l → Lies X pins σ H a cls d B sI s3 → wManyA X.K X.N.length i Wout D l cls d σ H →
      wpAny (model X.prog X.w) X.A (handleBy (.ref a) X.env hds) (SP X pins D) X.xe s3
  | _, _, .nil, L, w => clauses_out hs hf tk L w
  | _, _, .cons (x := x) (c := c) named does more, L, w => by
    obtain ⟨b, eb, yes, no⟩ := w
    apply wpAny_handleBy_cons _ (by intro q; cases q)
    apply codeAny_handlers_test
    obtain ⟨oe, z, dt, e1, S⟩ := L.inSuite hf
    have class_ : PySem.W.Looks (model X.prog X.w) s3.heap (typeOf (.ref a)) cls := by
      intro A Q E s k q
      exact wpAny_typeOf_ref (k _ _ e1) (by rw [z.1]; exact q)
    have asks := PySem.W.exm_one (M := model X.prog X.w) L.here.kIn class_ eb
    obtain ⟨hg, hdb, hm⟩ := named
    have go : ∀ {Q : Value → Shared → Prop} {E : Value → Shared → Prop} {np : Pos}, Q c s3 → wpAny (model X.prog X.w) (X.A.mark (some (.ref a))) (eval (.Name x np) X.env) Q E s3 := by
      intro Q E np q
      cases hm with
      | inl hm => exact ld_glob (X := X.suite a ((a, oe) :: (X.pn ++ pins))) S hg hm q hdb
      | inr hm => exact ld_blt (X := X.suite a ((a, oe) :: (X.pn ++ pins))) S hg hm.1 hm.2.1 q hm.2.2 hdb
    apply go
    apply asks.here
    cases b with
    | false => exact clauses_all hs hf hN hi hln tk more L (no rfl)
    | true =>
      apply codeAny_handlers_suite_as
      apply HandSPX.lands_againZ L.fly
      intro h4 f4 u4
      exact clauses_in hf hN hi hln does (L.on u4 f4) (yes rfl L.inv.len a L.free)
end
/-- try: body, except x1 as n: .. except x2 as n: .. -/
theorem ps_try_manyA {X : Cx} {n : Str} {i : Nat} {body : List Stmt} {h₀ : ExceptHandler} {hds : List ExceptHandler} {l : List (Value × Suite)} {pos : Pos} {tb : WX → TS} {Wout : WX}
    (hs : X.stack = X.env :: X.outer) (hf : X.env.frame = some X.env.locals) (hN : X.N.Nodup) (hi : X.N[i]? = some n) (hln : X.env.kindOf n = some .local) (tk : Takes X Wout)
    (hb : ∀ (W : WX) (pn : List (Addr × Obj)) (xe : Value → Shared → Prop), Takes (X.tr pn xe) W → PassesOwn (model X.prog X.w) X.A X.env xe → PSs (X.tr pn xe) body (tb W))
    (hh : HdsA X n (h₀ :: hds) l) : PS X (.Try body (h₀ :: hds) [] [] pos) (fun D σ H => tb (wManyA X.K X.N.length i Wout D l) D σ H) := by
  constructor
  intro pins s σ H D I h
  have ok := I.ok
  apply wpAny_Try_except
  have caught : Takes (X.tr (X.pn ++ pins) (fun e s1 => wpAny (model X.prog X.w) X.A (noteFrame e X.env) (fun _ s2 => wpAny (model X.prog X.w) X.A (setFlight e none)
      (fun _ s3 => wpAny (model X.prog X.w) X.A (handleBy e X.env (h₀ :: hds)) (SP X pins D) X.xe s3) X.xe s2) X.xe s1)) (wManyA X.K X.N.length i Wout D l) := by
    intro u s1 x
    obtain ⟨a, B, sI, _, σ', H', cls, d, rfl, J, gr, up, sky, na, os, ag, w⟩ := x
    have frames : X.A.frames = some (X.env :: X.outer) := ok.frames.trans (by rw [hs])
    rw [show (X.tr (X.pn ++ pins) _).stack = X.env :: X.outer from hs] at sky
    apply Sky.land Zc.steady frames hf sky
    intro h3 f3 u3
    exact clauses_all hs hf hN hi hln tk hh ⟨J.ofTry ok, gr, up.trans u3, f3, na, os, ag⟩ w
  apply wpAny_mono ((hb _ _ _ caught PassesOwn.looking).run [] s σ H D (I.toTry _) h)
  · intro f s1 q
    match f, q with
    | .next, ⟨_, _, J, q⟩ => exact wpAny_execs_nil ⟨_, _, J.ofTry ok, q⟩
    | .brk, ⟨_, _, J, q⟩ => exact ⟨_, _, J.ofTry ok, q⟩
    | .cont, ⟨_, _, J, q⟩ => exact ⟨_, _, J.ofTry ok, q⟩
    | .ret _, ⟨_, _, _, J, r, q⟩ => exact ⟨_, _, _, J.ofTry ok, r, q⟩
  · intro _ _ q
    exact q
end BK
set_option Elab.async false
set_option linter.all false
set_option maxRecDepth 100000
set_option maxHeartbeats 4000000
/-! KitC: own errors: made, raised, asked. -/
namespace BK
open PySem PySem.Spec PyProof.Rows L2
/-- what an own class of errors says, so that isinstance asks its instances rightly -/
structure IsC (K : PySem.W.Frag) (D : Addr) : Prop where
  cl : (PySem.W.clsIn K D).isSome = true
  hg : PySem.W.findIn K (.ref D) "__getattribute__" = some (some (.builtin "BaseException.__getattribute__"))
  hk : PySem.W.findIn K (.ref D) "__getattr__" = some none
  hs : PySem.W.subIn K (.ref D) (.type "BaseException") = some true
  ha : PySem.W.findIn K (.ref D) "__class__" = some (some (.builtin "object.__class__"))
  hn : PySem.W.specialIn K (.builtin "object.__class__") "__get__" = some (some (.builtin "getset_descriptor.__get__"))
  ht : PySem.W.takesIn K (.builtin "object.__class__") = some true
  hm : PySem.W.mroIn K D (.type "object") = some true
/-- isinstance(e, c), e the exception that the suite holds, d its dict -/
def rIsD (K : PySem.W.Frag) (D a : Addr) (d : Option Addr) : List V → Hp → VK → Prop := fun xs H Q => ∃ (c : V) (cv : Value) (b : Bool), xs = [.ref a, c] ∧ (∀ u, RelV c u → u = cv) ∧ PySem.W.kitOne K (.ref D) cv = some b ∧ (∀ dd, d = some dd → ∃ fs, H dd = some (.xd fs)) ∧ Q (.bl b) H
theorem call_isD {X : Cx} {a D : Addr} {d : Option Addr} {oe : Obj} {pn : List (Addr × Obj)} (C : IsC X.K D) (hz : Zc (.ref D) d oe) (hf : ∃ vs, oe.data = .fields vs) : CallR (X.suite a ((a, oe) :: pn)) (.builtin "isinstance") (rIsD X.K D a d) := by
  intro pins s σ H xs us Q I r h
  obtain ⟨c, cv, b, rfl, hcv, e, hd, q⟩ := h
  cases r with
  | cons rx rr =>
    cases rr with
    | cons rt rr =>
      cases rr
      cases rx
      have ec := hcv _ rt
      subst ec
      obtain ⟨hget, _⟩ := I.pin (a, oe) (List.mem_append.mpr (.inl List.mem_cons_self))
      obtain ⟨vs, hv⟩ := hf
      obtain ⟨od, J⟩ : ∃ od, PySem.W.InstAt s.heap a oe D od := by
        obtain ⟨oc, oda, odt, osl⟩ := oe
        obtain ⟨h1, h2⟩ := hz
        dsimp only at h1 h2 hv
        subst h1 h2 hv
        cases oda with
        | none => exact ⟨none, hget, rfl, rfl, trivial⟩
        | some dd =>
          obtain ⟨fs, hx⟩ := hd dd rfl
          obtain ⟨mA, ⟨o, es, ep, ho, _⟩, _⟩ := (show ObjOk X.prog X.w H s.heap dd (.xd fs) from I.hok dd _ hx)
          exact ⟨some o, hget, rfl, rfl, ho⟩
      exact PySem.W.kia_one (PySem.W.kitx_exc C.cl C.hg C.hk C.hs C.ha C.hn C.ht C.hm) I.kIn J e (fun z => nomatch z) fun tk => ⟨.bl b, H, I.kept (t' := tk) fun _ _ z => z, rfl, q⟩
/-! ### an error with one field -/
/-- __init__(self, f): self.f = f -/
def spErr (C : Addr) (f : Str) : Sp := fun vs H Q _ => ∃ (a : Addr) (y : V), vs = [.ref a, y] ∧ H a = some (exo a C none) ∧ ∀ dx, H dx = none → dx ≠ a → Q .non (upd (upd H dx (exd dx [(f, y)])) a (exo a C (some dx)))
section
variable {P : Program} {w : World} {K : PySem.W.Frag} {mg : Str → Option Value} {base : Heap}
theorem ok_err {st : Stmt} {cls f : Str} {C fI : Addr} {fd : FuncData} {p1 p2 p3 p4 : Pos} (F : Fun K "__init__" (cls ++ ".__init__") st fI fd) (T : OexC K C) (no : PySem.W.findIn K (.ref C) f = some none)
    (hb : defBody st = [.Assign [.Attribute (.Name "self" p1) f p2] (.Name f p3) p4]) (sc : FnScope ["self", f] ["self", f] (defScope st))
    (hv0 : Vis (defScope st) "self") (hv1 : Vis (defScope st) f) (hd : (f == ("__debug__" : Str)) = false) (hcd : (f == ("__classdict__" : Str)) = false)
    (hsw : ∀ X : Cx, swapsWith (.Name f p3) (some (.Attribute (.Name "self" p1) f p2)) p4.line X.env = pure false) : FnOk P w K mg base CX0 1 fI fd ["self", f] (spErr C f) := by
  refine F.ok sc (fun vs H Q E h => ?_) (fun cdv A outer s H vs Q E hr h => ?_)
  · obtain ⟨a, y, rfl, _⟩ := h
    rfl
  · obtain ⟨a, y, rfl, ha, q⟩ := h
    rw [hb]
    refine ⟨_, pss_one (ps_ost (pe_var (i := 0) rfl hv0) (pe_var (i := 1) rfl hv1 hd hcd) (hsw _)), ?_⟩
    exact ⟨y, rfl, .ref a, rfl, a, C, rfl, T, no, .inl ⟨ha, fun dx h1 h2 => q dx h1 h2⟩⟩
end
theorem heap_err {H : Hp} {a C d : Addr} {fs : List (Str × V)} (ha : H a = none) (hda : d ≠ a) :
    upd (del (upd (upd (upd H a (exo a C none)) d (exd d fs)) a (exo a C (some d))) a) d (.xd fs) = upd H d (.xd fs) := by
  funext b
  by_cases hb : b = d
  · rw [hb, upd_same, upd_same]
  · rw [upd_ne hb, upd_ne hb]
    by_cases hba : b = a
    · rw [hba, del_same, ha]
    · rw [del_ne hba, upd_ne hba, upd_ne hb, upd_ne hba]
section
variable {X : Cx}
/-- C(e), C with such an __init__ -/
theorem pmk_err {x f : Str} {C fI : Addr} {k : Nat} {fd : FuncData} {e : Expr} {ta : TA} {p pos : Pos} (T : OexC X.K C) (iC : PySem.W.findIn X.K (.ref C) "__init__" = some (some (.ref fI))) (tI : PySem.W.typeIn X.K (.ref fI) = some (.type "function"))
    (F1 : FnOk X.prog X.w X.K X.mg X.base CX0 k fI fd ["self", f] (spErr C f)) (hr : Room (k + 1) X.A) (hb : Binds X.K fd ["self", f] []) (hg : Gl X x) (hm : X.mg x = some (.ref C)) (ha : PA X [e] ta)
    (hdb : (x == ("__debug__" : Str)) = false := by decide) (hst : starEach [e] X.env = (false, eval e X.env) :: starEach [] X.env := by rfl) :
    PMk X (.Call (.Name x p) [e] [] pos) (tMkO C (spErr C f) [] ta) :=
  pmk_oex (es := []) (dvs := []) (ds := []) (sp := spErr C f) T iC tI F1 hr hb .nil (fun _ _ _ _ _ _ _ (z : False) => z.elim) hg hm ha hdb hst (by rfl)
/-- .. the end of its reading -/
theorem mk_err {C : Addr} {f : Str} {y : V} {H1 : Hp} {Q : XK} (h : ∀ d, H1 d = none → Q (.ref C) (some d) (upd H1 d (.xd [(f, y)]))) :
    [y].length ≤ 1000 ∧ ∀ a, H1 a = none → spErr C f (.ref a :: ([y] ++ [])) (upd H1 a (exo a C none))
      (fun v H2 => v = .non ∧ ∃ (d : Addr) (fs : List (Str × V)), H2 a = some (exo a C (some d)) ∧ H2 d = some (exd d fs) ∧ H1 d = none ∧ Q (.ref C) (some d) (upd (del H2 a) d (.xd fs))) (fun _ _ _ => False) := by
  refine ⟨by show 1 ≤ 1000; decide, fun a ha => ⟨a, y, rfl, upd_same, fun dx h1 h2 => ⟨rfl, dx, [(f, y)], upd_same, ?_, ?_, ?_⟩⟩⟩
  · rw [upd_ne h2, upd_same]
  · rw [upd_ne h2] at h1
    exact h1
  · rw [upd_ne h2] at h1
    rw [heap_err ha h2]
    exact h dx h1
/-- C(), C without own __init__ -/
theorem pmk_own0 {C : Addr} {bmB : List Value} {B newId initId : String} {x : Str} {p pos : Pos} (F : ExcBaseFacts B newId initId bmB) (q : PySem.W.excIn X.K C bmB newId = true) (gC : X.mg x = some (.ref C)) (kC : PySem.W.keepIn X.K (.ref C) = true) (r : Raises X (.ref C)) (hg : Gl X x)
    (hdb : (x == ("__debug__" : Str)) = false := by decide) : PMk X (.Call (.Name x p) [] [] pos) (fun _ H Q => Q (.ref C) none H) := by
  intro pins s σ H Q I h
  refine wpAny_Call_Name_kw (ld_glob I hg gC ?_ hdb)
  refine PySem.W.callWith_K0 I.kIn kC ?_
  show wpAny _ _ (call (.ref C) []) _ _ _
  obtain ⟨bm, N, nm, qn, bs, hdct, sn, sub, ab, col, dd, k0, k1, k2, k3, k5, mN, hC, hN, hni, T⟩ := exc_obj I.kIn q
  refine wpAny_call_exc_subT F T hC hN hni (fun h' e hm => ?_) (Nat.zero_le _)
  exact mk_of I hm r h (I.hok.gone hm.new)
end
end BK
set_option Elab.async false
set_option linter.all false
set_option maxRecDepth 100000
set_option maxHeartbeats 4000000
/-! KitD: defs by name; types of plain data; sums of tuples. -/
namespace BK
open PySem PySem.Spec PyProof.Rows L2
/-- a def of the text under its name -/
structure At (K : PySem.W.Frag) (mg : Str → Option Value) (x : Str) (st : Stmt) (ps : List Str) : Prop where
  ex : ∃ (f : Addr) (fd : FuncData), Fun K x x st f fd ∧ mg x = some (.ref f) ∧ Binds K fd ps []
/-- a def that keeps its promise, under its name -/
structure Def (P : Program) (w : World) (K : PySem.W.Frag) (mg : Str → Option Value) (base : Heap) (CX : CXT) (k : Nat) (x : Str) (ps : List Str) (sp : Sp) : Prop where
  ex : ∃ (f : Addr) (fd : FuncData), FnOk P w K mg base CX k f fd ps sp ∧ mg x = some (.ref f) ∧ PySem.W.keepIn K (.ref f) = true ∧ Binds K fd ps [] ∧ ∃ (oc : Value) (od : Option Addr) (osl : Array (Option Value)), K.lookup f = some ⟨oc, od, .func fd, osl⟩
structure DefG (P : Program) (w : World) (K : PySem.W.Frag) (mg : Str → Option Value) (base : Heap) (k : Nat) (x : Str) (ps : List Str) (sp : Sp) : Prop where
  ex : ∃ (f : Addr) (fd : FuncData), FnG P w K mg base k f fd ps sp ∧ mg x = some (.ref f) ∧ PySem.W.keepIn K (.ref f) = true ∧ Binds K fd ps [] ∧ ∃ (oc : Value) (od : Option Addr) (osl : Array (Option Value)), K.lookup f = some ⟨oc, od, .func fd, osl⟩
section
variable {P : Program} {w : World} {K : PySem.W.Frag} {mg : Str → Option Value} {base : Heap}
theorem At.ok {x : Str} {st : Stmt} {N ps : List Str} {k : Nat} {sp : Sp} (a : At K mg x st ps) (S : FnScope N ps (defScope st)) (len : ∀ vs H Q E, sp vs H Q E → vs.length = ps.length)
    (hbody : ∀ (f : Addr) (cdv : Value) (A : Around) (outer : List Env) (s : Shared) (H : Hp) (vs : List V) (Q : VK) (E : XK), Room k (A.deeper (envOfC x (defScope st) s.heap.objs.size f cdv)) → sp vs H Q E →
      ∃ t, PSs (cxOf CX0 P w K mg base N x (defScope st) f cdv A outer s H E).nox (defBody st) t ∧ t { nx := fun _ H' => Q .non H', rt := Q } (L2.start N vs) H) : Def P w K mg base CX0 (k + 1) x ps sp := by
  obtain ⟨f, fd, F, m, b⟩ := a.ex
  obtain ⟨oc, od, kV, doc, pm, an, cdv, ct, osl, _, lk, _⟩ := F.ex
  exact ⟨f, fd, F.ok S len (hbody f), m, F.kp, b, oc, od, osl, lk⟩
theorem At.okX {x : Str} {st : Stmt} {N ps : List Str} {k : Nat} {sp : Sp} (a : At K mg x st ps) (S : FnScope N ps (defScope st)) (len : ∀ vs H Q E, sp vs H Q E → vs.length = ps.length)
    (hbody : ∀ (f : Addr) (cdv : Value) (A : Around) (outer : List Env) (s : Shared) (H : Hp) (vs : List V) (Q : VK) (E : XK), Room k (A.deeper (envOfC x (defScope st) s.heap.objs.size f cdv)) → sp vs H Q E →
      ∃ t, PSs (cxOf (L2.CX P w) P w K mg base N x (defScope st) f cdv A outer s H E) (defBody st) t ∧ t { nx := fun _ H' => Q .non H', rt := Q } (L2.start N vs) H) : Def P w K mg base (L2.CX P w) (k + 1) x ps sp := by
  obtain ⟨f, fd, F, m, b⟩ := a.ex
  obtain ⟨oc, od, kV, doc, pm, an, cdv, ct, osl, _, lk, _⟩ := F.ex
  exact ⟨f, fd, F.okX S len (hbody f), m, F.kp, b, oc, od, osl, lk⟩
theorem At.okG {x : Str} {st : Stmt} {N ps : List Str} {k : Nat} {sp : Sp} (a : At K mg x st ps) (S : FnScope N ps (defScope st)) (len : ∀ vs H Q E, sp vs H Q E → vs.length = ps.length)
    (hbody : ∀ (f : Addr) (cdv : Value) (A : Around) (outer : List Env) (s : Shared) (H : Hp) (vs : List V) (Q : VK) (E : XK), A.guards = some [] → Room k (A.deeper (envOfC x (defScope st) s.heap.objs.size f cdv)) → sp vs H Q E →
      ∃ t, PSs (cxOf CX0 P w K mg base N x (defScope st) f cdv A outer s H E).nox (defBody st) t ∧ t { nx := fun _ H' => Q .non H', rt := Q } (L2.start N vs) H) : DefG P w K mg base (k + 1) x ps sp := by
  obtain ⟨f, fd, F, m, b⟩ := a.ex
  obtain ⟨oc, od, kV, doc, pm, an, cdv, ct, osl, _, lk, _⟩ := F.ex
  exact ⟨f, fd, fun_okG F S len (hbody f), m, F.kp, b, oc, od, osl, lk⟩
theorem Def.toG {x : Str} {ps : List Str} {k : Nat} {sp : Sp} (D : Def P w K mg base CX0 k x ps sp) : DefG P w K mg base k x ps sp := by
  obtain ⟨f, fd, F, m, kp, b, lk⟩ := D.ex
  exact ⟨f, fd, .of F, m, kp, b, lk⟩
end
section
variable {X : Cx} {CX : CXT} {k : Nat} {ps : List Str} {sp : Sp} {E : XK} {x : Str} {p pos : Pos} {e : Expr} {es : List Expr} {t : TA}
def tCallD (sp : Sp) (E : XK) (t : TA) : TE := fun σ H Q => t σ H fun vs H1 => sp (vs ++ []) H1 Q E
theorem pe_def (D : Def X.prog X.w X.K X.mg X.base CX k x ps sp) (hr : Room k X.A) (hg : Gl X x) (hx : Passes CX X E) (ha : PA X (e :: es) t)
    (hdb : (x == ("__debug__" : Str)) = false := by decide) (he : starEach (e :: es) X.env = (false, eval e X.env) :: starEach es X.env := by rfl) (hpl : (backTo pos (starEach es X.env)).any (·.1) = false := by rfl) :
    PE X (.Call (.Name x p) (e :: es) [] pos) (tCallD sp E t) := by
  obtain ⟨f, fd, F, m, kp, b, _⟩ := D.ex
  exact pe_call F hr hg m kp b .nil hx ha hdb he hpl
theorem pe_defG (D : DefG X.prog X.w X.K X.mg X.base k x ps sp) (hgd : X.A.guards = some []) (hr : Room k X.A) (hg : Gl X x) (ha : PA X (e :: es) t)
    (hdb : (x == ("__debug__" : Str)) = false := by decide) (he : starEach (e :: es) X.env = (false, eval e X.env) :: starEach es X.env := by rfl) (hpl : (backTo pos (starEach es X.env)).any (·.1) = false := by rfl) :
    PE X (.Call (.Name x p) (e :: es) [] pos) (tCallG sp t) := by
  obtain ⟨f, fd, F, m, kp, b, _⟩ := D.ex
  exact pe_callG F hgd hr hg m kp b ha hdb he hpl
theorem pe_defG0 (D : DefG X.prog X.w X.K X.mg X.base k x ps sp) (hgd : X.A.guards = some []) (hr : Room k X.A) (hg : Gl X x)
    (hdb : (x == ("__debug__" : Str)) = false := by decide) : PE X (.Call (.Name x p) [] [] pos) (tCallG sp tNil) := by
  obtain ⟨f, fd, F, m, kp, b, _⟩ := D.ex
  exact pe_callG0 F hgd hr hg m kp b hdb
end
/-! ### types -/
def tyOf : PyData → String
  | .none => "NoneType"
  | .bool _ => "bool"
  | .int _ => "int"
  | .str _ => "str"
  | .list _ => "list"
  | .tuple _ => "tuple"
  | .dict _ => "dict"
theorem tyx_of {K : PySem.W.Frag} {H : Hp} {v : V} {d : PyData} (r : Rep K H v d) : TyX K H v (.type (tyOf d)) := by
  cases r with
  | non => exact .base .non
  | bl b => exact .base (.bl b)
  | int i => exact .base (.int i)
  | str x => exact .base (.str x)
  | lst h ra =>
    rcases h with (h | ⟨o, h⟩) | ⟨o, its, n, h, c, _⟩
    · exact .base (.lst h)
    · exact .base (.frz h)
    · exact .kList h c
  | tup h ra =>
    rcases h with (h | ⟨o, h⟩) | ⟨o, its, n, h, c, _⟩
    · exact .base (.tup h)
    · exact .fTuple h
    · exact .kTuple h c
/-- of plain data -/
def isI : PyData → Bool
  | .bool _ => true
  | .int _ => true
  | _ => false
theorem kit_int : ∀ d : PyData, kitB (tyOf d) "int" = some (isI d)
  | .none => (by decide +kernel : kitB "NoneType" "int" = some false)
  | .bool _ => (by decide +kernel : kitB "bool" "int" = some true)
  | .int _ => (by decide +kernel : kitB "int" "int" = some true)
  | .str _ => (by decide +kernel : kitB "str" "int" = some false)
  | .list _ => (by decide +kernel : kitB "list" "int" = some false)
  | .tuple _ => (by decide +kernel : kitB "tuple" "int" = some false)
  | .dict _ => (by decide +kernel : kitB "dict" "int" = some false)
def isB : PyData → Bool
  | .bool _ => true
  | _ => false
theorem kit_bool : ∀ d : PyData, kitB (tyOf d) "bool" = some (isB d)
  | .none => (by decide +kernel : kitB "NoneType" "bool" = some false)
  | .bool _ => (by decide +kernel : kitB "bool" "bool" = some true)
  | .int _ => (by decide +kernel : kitB "int" "bool" = some false)
  | .str _ => (by decide +kernel : kitB "str" "bool" = some false)
  | .list _ => (by decide +kernel : kitB "list" "bool" = some false)
  | .tuple _ => (by decide +kernel : kitB "tuple" "bool" = some false)
  | .dict _ => (by decide +kernel : kitB "dict" "bool" = some false)
def isT : PyData → Bool
  | .tuple _ => true
  | _ => false
theorem kit_tuple : ∀ d : PyData, kitB (tyOf d) "tuple" = some (isT d)
  | .none => (by decide +kernel : kitB "NoneType" "tuple" = some false)
  | .bool _ => (by decide +kernel : kitB "bool" "tuple" = some false)
  | .int _ => (by decide +kernel : kitB "int" "tuple" = some false)
  | .str _ => (by decide +kernel : kitB "str" "tuple" = some false)
  | .list _ => (by decide +kernel : kitB "list" "tuple" = some false)
  | .tuple _ => (by decide +kernel : kitB "tuple" "tuple" = some true)
  | .dict _ => (by decide +kernel : kitB "dict" "tuple" = some false)
theorem isi_int {K : PySem.W.Frag} {H : Hp} {v : V} {d : PyData} {Q : VK} (r : Rep K H v d) (q : Q (.bl (isI d)) H) : rIsi K [v, .ty "int"] H Q := ⟨v, .ty "int", _, _, _, rfl, .ty "int", tyx_of r, kit_ty (kit_int d), q⟩
theorem isi_bool {K : PySem.W.Frag} {H : Hp} {v : V} {d : PyData} {Q : VK} (r : Rep K H v d) (q : Q (.bl (isB d)) H) : rIsi K [v, .ty "bool"] H Q := ⟨v, .ty "bool", _, _, _, rfl, .ty "bool", tyx_of r, kit_ty (kit_bool d), q⟩
theorem isi_tuple {K : PySem.W.Frag} {H : Hp} {v : V} {d : PyData} {Q : VK} (r : Rep K H v d) (q : Q (.bl (isT d)) H) : rIsi K [v, .ty "tuple"] H Q := ⟨v, .ty "tuple", _, _, _, rfl, .ty "tuple", tyx_of r, kit_ty (kit_tuple d), q⟩
/-! ### sums -/
theorem ints_of {ns : List Int} : ∀ {us : List Value}, Vals (ns.map V.int) us → IntsAre us ns := by
  induction ns with
  | nil =>
    intro us r
    cases r
    exact .nil
  | cons n ns ih =>
    intro us r
    cases r with
    | cons a b =>
      obtain ⟨t, rfl⟩ := a
      exact .cons _ _ (ih b)
theorem cr_sumT {X : Cx} (hc : X.calm = true) : CallR X (.builtin "sum") (fun vs H Q => ∃ (a : Addr) (ns : List Int), vs = [V.ref a] ∧ SqT X.K H a (ns.map V.int) ∧ Q (.int ns.sum) H) := by
  intro pins s σ H xs us Q I r h
  obtain ⟨a, ns, rfl, hs, q⟩ := h
  cases r with
  | cons rx rr =>
    cases rr
    obtain rfl : _ = Value.ref a := rx
    obtain ⟨its, rv, ht, hz⟩ := I.tuple hs
    have hi := ints_of rv
    obtain ⟨xs, hx⟩ := hi.allInts.items
    have hn : numsOf its.toArray.toList = ns := by rw [show its.toArray.toList = its from rfl, hi.numsOf]
    have hl : s.heap.IsTuple a its.toArray := ht
    rw [hx] at hl hn
    rw [nums_intItems] at hn
    refine PySem.W.ktm_sumG (I.ok.hd hc) hl fun h' tk t' hk => ?_
    rw [preSum_eq, List.take_of_length_le (by simp), hn]
    exact ⟨.int ns.sum, H, I.kept (t' := tk) hk, ⟨_, rfl⟩, q⟩
theorem pe_ty {X : Cx} {x : Str} {n : String} {pos : Pos} (hg : Gl X x) (hm : X.mg x = none) (hv : bootBuiltins x = some (.type n)) (hn : x ≠ "__name__" := by decide) (hdb : (x == ("__debug__" : Str)) = false := by decide) : PE X (.Name x pos) (tC (.ty n)) :=
  pe_bltn (v := .ty n) hg hm hv rfl hn hdb
end BK
set_option Elab.async false
set_option linter.all false
set_option maxRecDepth 100000
set_option maxHeartbeats 4000000
/-! KitF: heaps that grow beside the code tables; errors raised; the end of a law with tables. -/
namespace BK
open PySem PySem.Spec PyProof.Rows L2 LamX
/-- the tables of the defs that make lambdas, and of one that makes a generator -/
structure Tb (T : List (Addr × Str)) (PG : Addr) (H : Hp) : Prop where
  lam : Tabs T H
  gen : GxR.TabG H PG
theorem rd_ext {H H' : Hp} {a : Addr} {u : HO} (e : ExtN H H') (hu : ∀ ps, u ≠ .tbl ps) (h : Rd H a u) : Rd H' a u := by
  rcases h with h | ⟨o, h⟩
  · exact Or.inl (e a _ h hu)
  · exact Or.inr ⟨o, e a _ h (fun ps z => by cases z)⟩
theorem sql_ext {K : PySem.W.Frag} {H H' : Hp} {a : Addr} {xs : List V} (e : ExtN H H') (h : SqL K H a xs) : SqL K H' a xs := by
  rcases h with h | h
  · exact Or.inl (rd_ext e (fun ps z => by cases z) h)
  · exact Or.inr h
theorem sqt_ext {K : PySem.W.Frag} {H H' : Hp} {a : Addr} {xs : List V} (e : ExtN H H') (h : SqT K H a xs) : SqT K H' a xs := by
  rcases h with h | h
  · exact Or.inl (rd_ext e (fun ps z => by cases z) h)
  · exact Or.inr h
mutual
theorem Rep.ext {K : PySem.W.Frag} {H H' : Hp} (e : ExtN H H') : ∀ {v : V} {d : PyData}, Rep K H v d → Rep K H' v d
  | _, _, .non => .non
  | _, _, .bl b => .bl b
  | _, _, .int i => .int i
  | _, _, .str x => .str x
  | _, _, .lst h r => .lst (sql_ext e h) (RepAll.ext e r)
  | _, _, .tup h r => .tup (sqt_ext e h) (RepAll.ext e r)
theorem RepAll.ext {K : PySem.W.Frag} {H H' : Hp} (e : ExtN H H') : ∀ {vs : List V} {ds : List PyData}, RepAll K H vs ds → RepAll K H' vs ds
  | _, _, .nil => .nil
  | _, _, .cons h r => .cons (Rep.ext e h) (RepAll.ext e r)
end
theorem ext_new {H : Hp} {p : Addr} {o : HO} (h : H p = none) : ExtN H (upd H p o) := fun b u e _ => by
  rw [upd_ne (ne_of_none e h)]
  exact e
theorem tb_new {T : List (Addr × Str)} {PG : Addr} {H : Hp} {p : Addr} {o : HO} (h : H p = none) (t : Tb T PG H) : Tb T PG (upd H p o) := by
  have k : ∀ b u, H b = some u → upd H p o b = some u := fun b u e => by
    rw [upd_ne (ne_of_none e h)]
    exact e
  obtain ⟨ps, e1, e2⟩ := t.gen
  exact ⟨t.lam.ext k, ps, k _ _ e1, e2⟩
theorem ext_mut {H0 H : Hp} {p : Addr} {o : HO} (e : ExtN H0 H) (h : H0 p = none) : ExtN H0 (upd H p o) := fun b u x n => by
  rw [upd_ne (ne_of_none x h)]
  exact e b u x n
/-- an object that is no table changes -/
theorem tb_mut {T : List (Addr × Str)} {PG : Addr} {H : Hp} {p : Addr} {o u : HO} (h : H p = some u) (hu : ∀ ps, u ≠ .tbl ps) (hc : ∀ q, u ≠ CodeO p q) (t : Tb T PG H) : Tb T PG (upd H p o) := by
  have k : ∀ b ps, H b = some (.tbl ps) → upd H p o b = some (.tbl ps) := fun b ps e => by
    rw [upd_ne (fun z => by rw [z, h] at e; exact hu ps (Option.some.inj e))]
    exact e
  have k2 : ∀ c q, H c = some (CodeO c q) → upd H p o c = some (CodeO c q) := fun c q e => by
    rw [upd_ne (fun z => by
      subst z
      rw [h] at e
      exact hc q (Option.some.inj e))]
    exact e
  obtain ⟨ps, e1, e2⟩ := t.gen
  refine ⟨fun x hx => ?_, ps, k _ _ e1, e2⟩
  obtain ⟨ps', h1, h2, h3⟩ := t.lam x hx
  refine ⟨ps', k _ _ h1, h2, fun pos cv hcv => ?_⟩
  obtain ⟨c, a1, a2⟩ := h3 pos cv hcv
  exact ⟨c, a1, k2 _ _ a2⟩
/-! ### errors with a value -/
structure ErrV (P : Program) (w : World) (K : PySem.W.Frag) (mg : Str → Option Value) (base : Heap) (x f : Str) (C : Addr) : Prop where
  ex : ∃ (fI : Addr) (fd : FuncData), OexC K C ∧ PySem.W.findIn K (.ref C) "__init__" = some (some (.ref fI)) ∧ PySem.W.typeIn K (.ref fI) = some (.type "function") ∧
    FnOk P w K mg base L2.CX0 1 fI fd ["self", f] (spErr C f) ∧ Binds K fd ["self", f] [] ∧ mg x = some (.ref C)
section
variable {X : Cx} {x f : Str} {C : Addr} {e : Expr} {ta : TA} {p pos pos' : Pos}
theorem ps_raiseV {W : WX} (T : ErrV X.prog X.w X.K X.mg X.base x f C) (hc : X.calm = true) (tk : Takes X W) (hr : Room 2 X.A) (hg : Gl X x) (ha : PA X [e] ta)
    (hdb : (x == ("__debug__" : Str)) = false := by decide) (hst : starEach [e] X.env = (false, eval e X.env) :: starEach [] X.env := by rfl) :
    PS X (.Raise (some (.Call (.Name x p) [e] [] pos)) none pos') (fun _ σ H => tMkO C (spErr C f) [] ta σ H fun cls d H' => W cls d σ H') := by
  obtain ⟨fI, fd, h1, h2, h3, h4, h5, h6⟩ := T.ex
  exact ps_raise hc tk (pmk_err h1 h2 h3 h4 hr h5 hg h6 ha hdb hst)
end
end BK
set_option Elab.async false
set_option linter.all false
set_option maxRecDepth 100000
set_option maxHeartbeats 4000000
/-! KitX: generator expressions whose element runs in the layer: its frame, its turns, who draws from it. -/
namespace BK
open PySem PySem.Spec PyProof.Rows L2 LamX
/-- nothing but the table at P, and new things -/
def Grow (P : Addr) (q : Str) (H H' : Hp) : Prop := TabS H' P q ∧ ∀ b o, b ≠ P → H b = some o → H' b = some o
theorem Grow.ext {P : Addr} {q : Str} {H H' : Hp} (g : Grow P q H H') {ps : Array Value} (hP : H P = some (.tbl ps)) : ExtN H H' := fun b o e n => g.2 b o (fun z => n ps (Option.some.inj (e.symm.trans (by rw [z]; exact hP)))) e
section
variable {X : Cx} {pins : List (Addr × Obj)} {σ : L2.St} {H : Hp} {s : Shared}
/-- the generator's code object is known or is made -/
theorem code_grow {E : Value → Shared → Prop} {t : Shared} {c P : Addr} {pos : Pos} {q : Str} {scope : Scope} {Q : Value → Shared → Prop} (I : Inv X pins σ H t) (hc : X.env.code = .ref c) (TB : GxR.TabB X.base X.mg c P) (tS : TabS H P q)
    (h : ∀ (code : Value) (h3 : Heap) (tk : Nat) (H3 : Hp), Inv X pins σ H3 { t with heap := h3, toks := tk } → Grow P q H H3 → Heap.ExtBut P t.heap h3 → t.heap.objs.size ≤ h3.objs.size → (∀ b, b < t.heap.objs.size → H b = none → H3 b = none) → Q code { t with heap := h3, toks := tk }) :
    wpAny (model X.prog X.w) X.A (genexprCode X.env pos q scope) Q E t := by
  obtain ⟨ps, hP, ok, named⟩ := _root_.id tS
  have atP : t.heap.get? P = some { cls := .none, data := .fields ps } := I.hok P _ hP
  have cd : PySem.W.CodeHd t.heap c P := TB.code.keeps I.bk
  by_cases hf : ∃ cv, codeAmong pos ps.toList = some cv
  · obtain ⟨cv, hf⟩ := hf
    apply wpAny_genexprCode_hit hc (cd.code atP ok) hf
    exact h cv t.heap t.toks H I ⟨tS, fun _ _ _ e => e⟩ (Heap.ExtBut.refl _ _) (Nat.le_refl _) fun _ _ e => e
  · have nf : codeAmong pos ps.toList = none := by
      cases e : codeAmong pos ps.toList with
      | none => rfl
      | some cv => exact absurd ⟨cv, e⟩ hf
    apply wpAny_genexprCodeX hc (cd.code atP ok) (cd.tab atP) nf
    intro c' h' tk hx ge lt isC rec tab _
    obtain ⟨_, _, _, _, _, _, _, _, _, _, _, _, _, _, _, _, _, _, _, tr, _⟩ := isC
    have cO : ∃ (oc : Obj) (vs : Array Value) (t : Tok), h'.get? c' = some oc ∧ oc.data = .fields vs ∧ vs[1]? = some (.str q t) := by
      obtain ⟨c2, oc, vs, t, e, r⟩ := rec
      cases e
      exact ⟨oc, vs, t, r⟩
    have nC : H c' = none := I.hok.fresh ge
    have nP : P ≠ c' := ne_of_none hP nC
    refine h _ h' tk _ (LamX.inv_table I hP (fun b u n e => hx b u n e) tab.2 ge cO) ⟨⟨ps ++ #[rawInt pos.line, rawInt pos.col, .ref c'], ?_, tr, ?_⟩, ?_⟩ hx (Nat.le_trans ge (Nat.le_of_lt lt)) ?_
    · rw [upd_ne nP, upd_same]
    · intro pos' cv hcv
      rw [Array.toList_append] at hcv
      rcases LamX.among_app ps.toList ok hcv with e | e
      · obtain ⟨c3, e1, e2⟩ := named pos' cv e
        exact ⟨c3, e1, by rw [upd_ne (ne_of_none e2 nC), upd_ne (fun z => by rw [z, hP] at e2; cases e2)]; exact e2⟩
      · exact ⟨c', e, upd_same⟩
    · intro b u n e
      rw [upd_ne (ne_of_none e nC), upd_ne n]
      exact e
    · intro b lb nb
      rw [upd_ne (fun z => Nat.lt_irrefl _ (Nat.lt_of_lt_of_le lb (by rw [z]; exact ge))), upd_ne (fun z => by rw [z, hP] at nb; cases nb)]
      exact nb
end
/-! ### the frame of a generator expression -/
/-- its scope's names -/
structure GenN (N : List Str) (sc scope : Scope) (own : List (Str × Nat)) : Prop where
  blk : BlkOk N sc scope own
  co : scope.isCoroutine = false
  cell : ∀ y ∈ scope.names, y.2 ≠ .cell
  dot : scope.names.lookup (".0" : Str) = some NameKind.local
def genNB (N : List Str) (sc scope : Scope) (own : List (Str × Nat)) : Bool :=
  blkC N sc scope own && !scope.isCoroutine && (scope.names.all fun y => match y.2 with | .cell => false | _ => true) && (match scope.names.lookup (".0" : Str) with | some .local => true | _ => false)
theorem genN_by {N : List Str} {sc scope : Scope} {own : List (Str × Nat)} (h : genNB N sc scope own = true) : GenN N sc scope own := by
  unfold genNB at h
  simp only [Bool.and_eq_true, Bool.not_eq_true', List.all_eq_true] at h
  obtain ⟨⟨⟨h1, h2⟩, h3⟩, h4⟩ := h
  refine ⟨blkOk_by h1, h2, fun y hy e => ?_, ?_⟩
  · have q := h3 y hy
    rw [e] at q
    cases q
  · split at h4
    · assumption
    · cases h4
abbrev gEnv (X : Cx) (scope : Scope) (C : Addr) (code : Value) : Env := genEnv scope (cloFrom X.env.cells scope.names []) C code builtinsNs X.env
/-- the context of a generator expression's frame: made at s, H; B: the around of the one who draws -/
abbrev gCx (X : Cx) (B : Around) (s : Shared) (H : Hp) (scope : Scope) (C : Addr) (code : Value) (fp : List Addr) (pn : List (Addr × Obj)) : Cx :=
  { X with A := B.deeper (gEnv X scope C code), s_0 := s, H_0 := H, env := gEnv X scope C code, outer := X.stack, stack := gEnv X scope C code :: X.stack, ex := fp, fn := fun _ => false, calm := true, pn := pn, xe := fun _ _ => False }
section
variable {X : Cx} {pins : List (Addr × Obj)} {σ : L2.St} {H : Hp} {s : Shared}
theorem g_start {B : Around} {scope : Scope} {own : List (Str × Nat)} {fp : List Addr} {a : Addr} {go : Obj} {it code : Value} {h' : Heap} {tk : Nat} {gs : Array GenState} (I : Inv X pins σ H s) (ok : GenN X.N X.env.scope scope own) (hN : X.N.Nodup) (hh : B.handled = none) (hB : B.frames = some X.stack)
    (hfp : ∀ b ∈ fp, FpOk X pins H b ∧ b < s.heap.objs.size) (hns : h'.Ns s.heap.objs.size fun y => if y = ".0" then some it else none) (kp : ∀ b o, s.heap.get? b = some o → h'.get? b = some o) (hgs : AllBare gs)
    (ha : h'.get? a = some go) (ha1 : s.heap.objs.size < a) (hgo : ∀ v, go.data ≠ .cell v) :
    Inv (gCx X B s H scope s.heap.objs.size code fp [(a, go)]) [] (wipe σ (own.map (·.2))) H { s with heap := h', toks := tk, gens := gs } := by
  have hfree : ∀ y ∈ scope.names, y.2 = .free → ∃ c, X.env.cells.lookup y.1 = some c := fun y hy e => by
    rcases ok.blk.free y hy e with k | k
    · exact I.ok.has _ (.inl k)
    · exact I.ok.has _ (.inr k)
  have cm : ∀ {y c}, (cloFrom X.env.cells scope.names []).lookup y = some c → X.env.cells.lookup y = some c := fun {y c} e => by
    rcases cloFrom_mem (PySem.mem_of_lookup e) with hm | ⟨h1, h2⟩
    · cases hm
    · obtain ⟨c1, hc⟩ := hfree _ h1 rfl
      have hc : X.env.cells.lookup y = some c1 := hc
      have e2 : c = c1 := by
        rw [h2, hc] <;> rfl
      rw [e2]
      exact hc
  have look : ∀ {y}, scope.names.lookup y = some .free → ∃ c, (cloFrom X.env.cells scope.names []).lookup y = some c := fun {y} hl => by
    have hy : (y, NameKind.free) ∈ scope.names := PySem.mem_of_lookup hl
    exact mem_lookup (cloFrom_has (cells := X.env.cells) (acc := []) hy)
  have clt : ∀ {y c}, X.env.cells.lookup y = some c → c < s.heap.objs.size := fun {y c} e => by
    obtain ⟨v, z⟩ := I.cell y c e
    exact z.lt
  have okG : (gCx X B s H scope s.heap.objs.size code fp [(a, go)]).Ok := by
    refine ⟨I.ok.mod, ok.blk.kind, I.ok.glob, rfl, Nat.le_refl _, fun y z c e1 e2 => I.ok.inj y z c (cm e1) (cm e2), fun y hy => ?_, fun y c z _ => ?_, fun _ => hh, Around.frames_deeper hB, .inr ⟨rfl, rfl⟩, fun b hb => ⟨?_, fun y c e z => ?_⟩, I.bs, Nat.le_trans I.ok.bsz I.sz, fun b o e hb => ?_, fun b hb z => ?_, I.stack, I.stkFree⟩
    · have hy : scope.names.lookup y = some .cell ∨ scope.names.lookup y = some .free := hy
      rcases hy with hy | hy
      · exact absurd rfl (ok.cell _ (PySem.mem_of_lookup hy))
      · exact look hy
    · have z : false = true := z
      cases z
    · exact Nat.ne_of_lt (hfp b hb).2
    · exact (hfp b hb).1.2.2.2.2.1 y c (cm e) z
    · rcases (hfp b hb).1.2.2.2.1 with z | z
      · exact I.ok.noex b o e z
      · exact absurd (Nat.lt_of_lt_of_le (Heap.lt_size e) (Nat.le_trans I.ok.bsz z)) (Nat.lt_irrefl _)
    · rcases List.mem_cons.mp (I.stkSub b z) with z | z
      · exact (hfp b hb).1.2.1 z
      · exact (hfp b hb).1.2.2.1 z
  refine ⟨okG, rfl, hgs, Un.kept kp, ⟨_, hns, fun i y v e1 e2 e3 => ?_⟩, fun y c e => ?_, I.hok.fresh (Nat.le_refl _), fun y c e => ?_, fun p hp => ?_, I.hok.kept kp, by rw [wipe_length]; exact I.len⟩
  · obtain ⟨e2, hne⟩ := wipe_some e2
    have e3 : Vis scope y := e3
    have no : ¬ (scope.names.lookup y = some .local ∨ scope.names.lookup y = some .cell) := fun hh => by
      have : y ∈ own.map (·.1) ∨ y ∉ X.N := by
        rcases hh with z | z
        · exact ok.blk.own _ (PySem.mem_of_lookup z) (.inl rfl)
        · exact ok.blk.own _ (PySem.mem_of_lookup z) (.inr rfl)
      rcases this with e' | e'
      · obtain ⟨p, hp, hpy⟩ := List.mem_map.mp e'
        have e3 := ok.blk.ix p hp
        have : p.1 = y := hpy
        rw [this] at e3
        exact hne (List.mem_map.mpr ⟨p, hp, nodup_ix hN e3 e1⟩)
      · exact e' (List.mem_of_getElem? e1)
    have k : scope.names.lookup y = some .free := by
      rcases e3 with k | k | k
      · exact absurd (.inl k) no
      · exact absurd (.inr k) no
      · exact k
    obtain ⟨m, hn, hl⟩ := I.loc
    have hvis : Vis X.env.scope y := (ok.blk.free _ (PySem.mem_of_lookup k) rfl).elim (fun k => .inr (.inl k)) (fun k => .inr (.inr k))
    obtain ⟨w', r, q⟩ := hl i y v e1 e2 hvis
    obtain ⟨c2, h2⟩ := look k
    refine ⟨w', r, .inr ⟨.inr k, c2, h2, ?_⟩⟩
    have c1 := cm h2
    rcases q with ⟨k', _⟩ | ⟨_, c3, e', z⟩
    · have k' : X.env.scope.names.lookup y = some .local := k'
      rcases ok.blk.free _ (PySem.mem_of_lookup k) rfl with k2 | k2 <;> rw [show X.env.scope.names.lookup y = _ from k2] at k' <;> cases k'
    · rw [c1] at e'
      cases e'
      exact z.keeps kp
  · obtain ⟨w', z⟩ := I.cell y c (cm e)
    exact ⟨w', z.keeps kp⟩
  · exact I.freeC y c (cm e)
  · have hp : p ∈ [(a, go)] ++ ([] : List (Addr × Obj)) := hp
    rw [List.append_nil, List.mem_singleton] at hp
    subst hp
    refine ⟨ha, I.hok.fresh (Nat.le_of_lt ha1), Nat.ne_of_gt ha1, fun z => ?_, hgo⟩
    have z : a ∈ frs X.stack := z
    rcases List.mem_cons.mp (I.stkSub a z) with z | z
    · have := I.lt
      rw [← z] at this
      exact Nat.lt_irrefl _ (Nat.lt_trans this ha1)
    · exact I.nofs (Nat.le_of_lt ha1) z
end
/-- while it sleeps: nothing that stood is lost, but what is its consumer's own -/
structure Kept (ss : List Addr) (s s' : Shared) : Prop where
  os : s'.os = s.os
  bare : AllBare s'.gens
  keep : ∀ b o, b ∉ ss → s.heap.get? b = some o → s'.heap.get? b = some o
  there : ∀ b ∈ ss, ∃ o, s'.heap.get? b = some o ∧ ∀ v, o.data ≠ .cell v
/-- the consumer's own things: younger than the frame's making, none of its -/
structure Mine (Z : Cx) (fp ss : List Addr) : Prop where
  ok : ∀ b ∈ ss, b ≠ Z.env.locals ∧ b ∉ Z.fs ∧ Z.s_0.heap.objs.size ≤ b ∧ (∀ x c, Z.env.cells.lookup x = some c → c ≠ b) ∧ (∀ p ∈ Z.pn, p.1 ≠ b) ∧ b ∉ fp
section
variable (Z : Cx) (σw : L2.St) (fp ss : List Addr) (tn : Nat → Heap → Prop) (Wt : Nat → Nat → Nat → Hp → Prop) (Yd : Nat → Nat → Nat → V → Hp → Prop) (En : Nat → Hp → Prop) (N : Nat)
/-- ahead of turn i -/
structure GAt (i : Nat) (H : Hp) (s : Shared) : Prop where
  inv : Inv Z [] σw H s
  tn : tn i s.heap
  fp : ∀ b ∈ fp, H b = none
  ss : ∀ b ∈ ss, H b = none ∧ ∃ o, s.heap.get? b = some o ∧ ∀ v, o.data ≠ .cell v
def GEnd' : GenEnd := fun n s₀ r s => r = .ok .next ∧ ∃ j H, n + j = N ∧ Inv Z [] σw H s ∧ En j H ∧ (∀ b ∈ ss, H b = none) ∧ ∀ b ∈ ss, ∀ o, s₀.heap.get? b = some o → s.heap.get? b = some o
def GYld : Protocol := fun n s₀ v s kap => ∃ i r j y H, n + 1 + j = N ∧ RelV y v ∧ GAt Z σw fp ss tn (i + 1) H s ∧ Yd i r j y H ∧ (∀ b ∈ ss, ∀ o, s₀.heap.get? b = some o → s.heap.get? b = some o) ∧ ∀ s' r', r' < r → Wt (i + 1) r' (j + 1) H → Kept ss s s' → kap (.send .none) s'
end
theorem inv_sleep {Z : Cx} {σ : L2.St} {H : Hp} {s s' : Shared} {fp ss : List Addr} (M : Mine Z fp ss) (I : Inv Z [] σ H s) (hs : ∀ b ∈ ss, H b = none) (k : Kept ss s s') : Inv Z [] σ H s' := by
  have nt : ∀ b u, H b = some u → b ∉ ss := fun b u e z => by rw [hs b z] at e; cases e
  refine I.call' (ch := ss) k.os ⟨fun b o e n _ hb => k.keep b o hb e, fun b o e n _ hb => ⟨o.slots, k.keep b o hb e⟩, fun _ _ _ n _ => n, fun b o e hb => ⟨o, k.keep b o hb e⟩, fun _ _ q => q, fun _ _ _ q => q, fun _ ps q => ⟨#[], by rw [q]; simp⟩⟩ (fun b u e => ?_) k.bare fun b hb => ?_
  · refine (I.hok b u e).stay (fun c v hc q => k.keep c v ?_ q) (fun _ q => q) fun _ _ q => q
    rcases hc with z | z
    · rw [z]; exact nt b u e
    · exact nt c _ z
  · obtain ⟨h1, h2, h3, h4, h5, h6⟩ := M.ok b hb
    exact ⟨.inr h3, h1, h4, fun p hp => h5 p (by simpa using hp)⟩
theorem GAt.sleep {Z : Cx} {σw : L2.St} {fp ss : List Addr} {tn : Nat → Heap → Prop} {P : Program} {w : World} {K : PySem.W.Frag} {tg : Expr} {J : It} {it : Addr} (T : Turn P w K tg J fp it tn) (M : Mine Z fp ss) {i : Nat} {H : Hp} {s s' : Shared} (g : GAt Z σw fp ss tn i H s) (k : Kept ss s s') : GAt Z σw fp ss tn i H s' :=
  ⟨inv_sleep M g.inv (fun b hb => (g.ss b hb).1) k, T.keep _ _ _ g.tn fun b hb o e => k.keep b o (fun z => (M.ok b z).2.2.2.2.2 hb) e, g.fp, fun b hb => ⟨(g.ss b hb).1, k.there b hb⟩⟩
theorem over_gen {B : Around} {elt : Expr} {cs : List Comprehension} {scope : Scope} {pos : Pos} {it acc : Value} {env : Env} : B.over (.compLoop (.GeneratorExp elt cs scope pos) 0 it acc env) [] = B.deeper env := by
  obtain ⟨hd, d, fr, gs, u⟩ := B
  rfl
theorem over_gen0 {B : Around} {elt : Expr} {cs : List Comprehension} {scope : Scope} {pos : Pos} {it acc : Value} {env : Env} : B.over (.compStart (.GeneratorExp elt cs scope pos) 0 it acc env) [] = B.deeper env := by
  obtain ⟨hd, d, fr, gs, u⟩ := B
  rfl
/-- what one turn does -/
abbrev Turns (J : It) (g : TG) (tt : TT) (te : TE) (σ : L2.St) (vs : List Nat) (Wt : Nat → Nat → Nat → Hp → Prop) (Yd : Nat → Nat → Nat → V → Hp → Prop) (En : Nat → Hp → Prop) (N : Nat) : Prop :=
  ∀ i r j H, Wt i r j H → (J.stop i H ∧ En j H) ∨ (J.go i H ∧ ∀ x H', J.yld i H x H' → g x (wipe σ vs) H' fun σ2 H2 => wipe σ2 vs = wipe σ vs ∧ tt σ2 H2 fun b H3 =>
      if b = true then te σ2 H3 fun y H4 => j < N ∧ Yd i r j y H4 else ∃ r', r' < r ∧ Wt (i + 1) r' j H3)
/-- all that is said of the frame Z and of who draws in B -/
structure Gen (Z : Cx) (B : Around) (tg : Expr) (ifs : List Expr) (elt : Expr) (J : It) (fp ss : List Addr) (it : Addr) (tn : Nat → Heap → Prop) (g : TG) (tt : TT) (te : TE) : Prop where
  hA : Z.A = B.deeper Z.env
  hcalm : Z.calm = true
  hco : Z.env.scope.isCoroutine = false
  hxe : Z.xe = fun _ _ => False
  T : Turn Z.prog Z.w Z.K tg J fp it tn
  hfx : Z.ex = fp
  hfpn : ∀ p ∈ Z.pn, ∀ b ∈ fp, p.1 ≠ b
  M : Mine Z fp ss
  hg : PG Z tg g
  ht : PTs Z ifs tt
  he : PE Z elt te
section
variable {Z : Cx} {B : Around} {elt iter tg : Expr} {ifs : List Expr} {scope : Scope} {pos : Pos} {it : Addr} {vs : List Nat} {σ : L2.St} {J : It} {fp ss : List Addr} {tn : Nat → Heap → Prop} {g : TG} {tt : TT} {te : TE}
  {Wt : Nat → Nat → Nat → Hp → Prop} {Yd : Nat → Nat → Nat → V → Hp → Prop} {En : Nat → Hp → Prop} {N : Nat}
/-- the turns -/
theorem seg_turns (G : Gen Z B tg ifs elt J fp ss it tn g tt te) (turn : Turns J g tt te σ vs Wt Yd En N) :
    ∀ (r i j : Nat) (s₀ s : Shared) (H : Hp), j ≤ N → Wt i r j H → GAt Z (wipe σ vs) fp ss tn i H s → (∀ b ∈ ss, ∀ o, s₀.heap.get? b = some o → s.heap.get? b = some o) →
      Seg (model Z.prog Z.w) B (GEnd' Z (wipe σ vs) ss En N) (GYld Z (wipe σ vs) fp ss tn Wt Yd N) (N - j) s₀ (.compLoop (.GeneratorExp elt [⟨tg, iter, ifs, 0⟩] scope pos) 0 (.ref it) .none Z.env)
        ((model Z.prog Z.w).den (.compLoop (.GeneratorExp elt [⟨tg, iter, ifs, 0⟩] scope pos) 0 (.ref it) .none Z.env)) [] s := by
  obtain ⟨hA, hcalm, hco, hpn, T, hfx, hfpn, M, hg, ht, he⟩ := G
  have ov : B.over (.compLoop (.GeneratorExp elt [⟨tg, iter, ifs, 0⟩] scope pos) 0 (.ref it) .none Z.env) [] = Z.A := by rw [over_gen, hA]
  have stat : ∀ {pl : List (Addr × Obj)} {σ' : L2.St} {H' : Hp} {s' : Shared}, Inv Z pl σ' H' s' → (∀ p ∈ pl, p.1 ∈ ss) → (∀ b ∈ fp, H' b = none) → ∀ b ∈ fp, FpOk Z pl H' b := fun {pl σ' H' s'} I' hpl hn b hb => by
    have hbx : b ∈ Z.ex := by rw [hfx]; exact hb
    refine ⟨hn b hb, (I'.ok.exf b hbx).1, I'.ok.exfs b hbx, .inl hbx, fun x c e => (I'.ok.exf b hbx).2 x c e, fun p hp z => ?_⟩
    rcases List.mem_append.mp hp with q | q
    · exact hfpn p q b hb z
    · exact (M.ok p.1 (hpl p q)).2.2.2.2.2 (by rw [z]; exact hb)
  have own : ∀ {σ' : L2.St} {H' : Hp} {s' : Shared}, Inv Z [] σ' H' s' → (∀ b ∈ ss, H' b = none) → ∀ b ∈ ss, FpOk Z [] H' b := fun {σ' H' s'} I' hn b hb => by
    obtain ⟨h1, h2, h3, h4, h5, h6⟩ := M.ok b hb
    exact ⟨hn b hb, h1, h2, .inr h3, h4, fun p hp => h5 p (by simpa using hp)⟩
  intro r
  induction r using Nat.strongRecOn with
  | ind r ih =>
    intro i j s₀ s H hj w ga hold
    show Seg _ B _ _ _ s₀ _ ((compTurn (.GeneratorExp elt [⟨tg, iter, ifs, 0⟩] scope pos) 0 (.ref it) .none Z.env).onRaise (leaving Z.env)) [] s
    rw [compTurn_gen, Sem.onRaise_eq_wrap]
    refine seg_bind_wrap (wpAny_standAt ?_)
    have IP := ga.inv.pinned (own ga.inv fun b hb => (ga.ss b hb).1) (fun b hb => (ga.ss b hb).2)
    have mem : ∀ p ∈ ([] ++ pinsAt ss s.heap : List (Addr × Obj)), p.1 ∈ ss := fun p hp => (of_pinsAt (by simpa using hp)).1
    have held : ∀ {pl : List (Addr × Obj)} {σ' : L2.St} {H' : Hp} {s' : Shared}, Inv Z (([] ++ pinsAt ss s.heap) ++ pl) σ' H' s' → ∀ b ∈ ss, H' b = none ∧ ∀ o, s.heap.get? b = some o → s'.heap.get? b = some o := fun {pl σ' H' s'} I' b hb => by
      obtain ⟨o, e, _⟩ := (ga.ss b hb).2
      obtain ⟨z1, z2, _⟩ := I'.pin (b, o) (List.mem_append_right _ (List.mem_append_left _ (List.mem_append_right _ (mem_pinsAt hb e))))
      refine ⟨z2, fun o' e' => ?_⟩
      rw [e] at e'
      cases e'
      exact z1
    rcases turn i r j H w with ⟨stop, qe⟩ | ⟨go, step⟩
    · refine seg_bind_wrap ?_
      rw [ov]
      refine thnF (T.done Z rfl rfl rfl hcalm i _ s _ H (fun _ _ => False) IP (stat IP mem ga.fp) ga.tn stop) fun r1 s1 ⟨hr, I1⟩ => ?_
      subst hr
      have hd := held (pl := []) (by rw [List.append_nil]; exact I1)
      exact seg_end (.ok .next) ⟨rfl, j, H, by omega, I1.unpinned (pins := []), qe, fun b hb => (hd b hb).1, fun b hb o e => (hd b hb).2 o (hold b hb o e)⟩
    · refine seg_bind_wrap ?_
      rw [ov]
      refine thnF (T.item Z rfl rfl rfl hcalm i _ s _ H (fun _ _ => False) IP (stat IP mem ga.fp) ga.tn go) fun r1 s1 ⟨u, hr, h1⟩ => ?_
      subst hr
      refine seg_bind_wrap ?_
      rw [ov]
      refine thnF h1 fun _ s2 ⟨x, H2, I2, r2, y2, st2, n2⟩ => ?_
      have I2' := I2.pinned (stat I2 mem n2) (T.obj _ _ st2)
      have xf : ∀ {α : Type} {t : Sem α} {Q : α → Shared → Prop} {s : Shared}, wpAny (model Z.prog Z.w) Z.A t Q Z.xe s → wpAny (model Z.prog Z.w) Z.A t Q (fun _ _ => False) s := fun h => by rw [hpn] at h; exact h
      refine seg_bind_wrap ?_
      rw [ov]
      refine thnF (xf (hg.run _ s2 _ H2 x u _ I2' r2 (step x H2 y2))) fun _ s3 ⟨σ3, H3, I3, hw3, q3⟩ => ?_
      refine seg_bind_wrap ?_
      rw [ov]
      refine thnF (xf (ht.run _ s3 σ3 H3 _ I3 q3)) fun b s4 ⟨H4, I4, q4⟩ => ?_
      have fin : ∀ {s' : Shared} {H' : Hp}, Inv Z (([] ++ pinsAt ss s.heap) ++ pinsAt fp s2.heap) σ3 H' s' → GAt Z (wipe σ vs) fp ss tn (i + 1) H' s' := fun {s' H'} I' => by
        have pin' : ∀ b ∈ fp, ∀ o, s2.heap.get? b = some o → s'.heap.get? b = some o ∧ H' b = none := fun b hb o e =>
          let z := I'.pin (b, o) (List.mem_append_right _ (List.mem_append_right _ (mem_pinsAt hb e)))
          ⟨z.1, z.2.1⟩
        have hl : (wipe σ vs).length = σ3.length := by rw [← hw3, wipe_length]
        refine ⟨((I'.unpinned (pins := [] ++ pinsAt ss s.heap)).unpinned (pins := [])).weak hl (fun j v e => ?_), T.keep _ _ _ st2 fun b hb o e => (pin' b hb o e).1, fun b hb => ?_, fun b hb => ?_⟩
        · rw [← hw3] at e
          exact (wipe_some e).1
        · obtain ⟨o, e, _⟩ := T.obj _ _ st2 b hb
          exact (pin' b hb o e).2
        · obtain ⟨o, e, d⟩ := (ga.ss b hb).2
          exact ⟨(held I' b hb).1, o, (held I' b hb).2 o e, d⟩
      cases b with
      | false =>
        simp only [Bool.false_eq_true, if_false] at q4 ⊢
        obtain ⟨r', hr', w'⟩ := q4
        exact seg_again rfl (ih r' hr' (i + 1) j s₀ s4 H4 hj w' (fin I4) fun b hb o e => (held I4 b hb).2 o (hold b hb o e))
      | true =>
        simp only [if_true] at q4 ⊢
        have hy : ∀ v, yieldOut Z.env v = yieldValue v := fun v => by simp only [yieldOut, hco, Bool.false_eq_true, if_false]
        simp only [hy]
        rw [Sem.bind_eq_wrap', Sem.bind_eq_wrap', Sem.wrap_wrap, Sem.wrap_wrap]
        refine seg_wrap ?_
        rw [ov]
        refine thnF (xf (he.run _ s4 σ3 H4 _ I4 q4)) fun v s5 ⟨y, H5, I5, r5, jn, yd⟩ => ?_
        have en : N - j = (N - (j + 1)) + 1 := by omega
        rw [en]
        refine seg_at (seg_yield rfl rfl rfl ⟨i, r, j, y, H5, by omega, r5, fin I5, yd, fun b hb o e => (held I5 b hb).2 o (hold b hb o e), fun s' r' hr' w' k => ?_⟩)
        exact seg_again rfl (ih r' hr' (i + 1) (j + 1) s' s' H5 jn w' ((fin I5).sleep T M k) fun _ _ _ e => e)
/-- its beginning -/
theorem seg_begin (G : Gen Z B tg ifs elt J fp ss it tn g tt te) (turn : Turns J g tt te σ vs Wt Yd En N)
    (r : Nat) (s₀ s : Shared) (H : Hp) (w : Wt 0 r 0 H) (ga : GAt Z (wipe σ vs) fp ss tn 0 H s) (hold : ∀ b ∈ ss, ∀ o, s₀.heap.get? b = some o → s.heap.get? b = some o) :
      Seg (model Z.prog Z.w) B (GEnd' Z (wipe σ vs) ss En N) (GYld Z (wipe σ vs) fp ss tn Wt Yd N) N s₀ (.compStart (.GeneratorExp elt [⟨tg, iter, ifs, 0⟩] scope pos) 0 (.ref it) .none Z.env)
        ((model Z.prog Z.w).den (.compStart (.GeneratorExp elt [⟨tg, iter, ifs, 0⟩] scope pos) 0 (.ref it) .none Z.env)) [] s := by
  have loop := seg_turns (iter := iter) (scope := scope) (pos := pos) G turn r 0 0 s₀ s H (Nat.zero_le _) w ga hold
  have T := G.T
  show Seg _ B _ _ _ s₀ _ ((compStart (.GeneratorExp elt [⟨tg, iter, ifs, 0⟩] scope pos) 0 (.ref it) .none Z.env).onRaise (leaving Z.env)) [] s
  unfold compStart
  rw [Sem.onRaise_eq_wrap]
  show Seg _ B _ _ _ s₀ _ ((ask >>= _).wrap _ _ _ _) [] s
  refine seg_bind_wrap (wpAny_askSetting ?_)
  split
  · exact seg_again rfl loop
  · first
      | exact seg_bind_wrap (wpAny_rule (seg_bind_wrap (wpAny_standAt (seg_bind_wrap (T.self _ 0 s _ _ ga.tn (seg_again rfl loop))))))
      | (refine seg_bind_wrap (wpAny_rule ?_); show Seg _ B _ _ _ s₀ _ ((standAt iter.pos >>= _).wrap _ _ _ _) [] s; exact seg_bind_wrap (wpAny_standAt (seg_bind_wrap (T.self _ 0 s _ _ ga.tn (seg_again rfl loop)))))
end
/-! ### who draws -/
/-- the generator sleeps: at most n more -/
def Sleeps (Z : Cx) (B : Around) (σw : L2.St) (fp ss : List Addr) (tn : Nat → Heap → Prop) (Wt : Nat → Nat → Nat → Hp → Prop) (Yd : Nat → Nat → Nat → V → Hp → Prop) (En : Nat → Hp → Prop) (N g n : Nat) (s : Shared) : Prop :=
  ∃ gs, s.gens[g]? = some gs ∧ ∀ s', Kept ss s s' → gs.Goes (model Z.prog Z.w) B (GEnd' Z σw ss En N) (GYld Z σw fp ss tn Wt Yd N) n (.send .none) s'
theorem kept_setGen {ss : List Addr} {s : Shared} {g : Nat} {x : GenState} (h : AllBare s.gens) (hx : x.bare = true) (ht : ∀ b ∈ ss, ∃ o, s.heap.get? b = some o ∧ ∀ v, o.data ≠ .cell v) : Kept ss s (s.setGen g x) :=
  ⟨rfl, allBare_setGen h hx, fun _ _ _ e => e, ht⟩
section
variable {Z : Cx} {A : Around} {σw : L2.St} {fp ss : List Addr} {tn : Nat → Heap → Prop} {Wt : Nat → Nat → Nat → Hp → Prop} {Yd : Nat → Nat → Nat → V → Hp → Prop} {En : Nat → Hp → Prop} {N g n : Nat} {s : Shared} {a : Addr}
theorem gen_next {P : Program} {w : World} {K : PySem.W.Frag} {tg : Expr} {J : It} {it : Addr} {H : Hp} {Q : Option Value → Shared → Prop} {E : Value → Shared → Prop} (hh : A.handled = none) (hroom : A.depth < recursionLimit) (T : Turn P w K tg J fp it tn) (M : Mine Z fp ss)
    (hgo : ∀ {h : Heap}, (∀ p ∈ Z.pn, h.get? p.1 = some p.2) → h.IsGen a g) (I : Inv Z [] σw H s) (hs : ∀ b ∈ ss, H b = none ∧ ∃ o, s.heap.get? b = some o ∧ ∀ v, o.data ≠ .cell v) (sl : Sleeps Z A.in1 σw fp ss tn Wt Yd En N g n s)
    (hY : ∀ v s1 i r j y H', n - 1 + 1 + j = N → RelV y v → GAt Z σw fp ss tn (i + 1) H' s1 → Yd i r j y H' → (∀ b ∈ ss, ∀ o, s.heap.get? b = some o → s1.heap.get? b = some o) → (∀ r', r' < r → Wt (i + 1) r' (j + 1) H' → ∃ m, n = m + 1 ∧ Sleeps Z A.in1 σw fp ss tn Wt Yd En N g m s1) → Q (some v) s1)
    (hE : ∀ s1 j H', n + j = N → Inv Z [] σw H' s1 → En j H' → (∀ b ∈ ss, H' b = none) → (∀ b ∈ ss, ∀ o, s.heap.get? b = some o → s1.heap.get? b = some o) → Q none s1) :
    wpAny (model Z.prog Z.w) A (pyNext (.ref a)) Q E s := by
  obtain ⟨gs, hgs, hgoes⟩ := sl
  have pins : ∀ {σ' : L2.St} {H' : Hp} {s' : Shared}, Inv Z [] σ' H' s' → ∀ p ∈ Z.pn, s'.heap.get? p.1 = some p.2 := fun {σ' H' s'} I' p hp => (I'.pin p (List.mem_append_left _ hp)).1
  have lt : g < s.gens.size := (Array.getElem?_eq_some_iff.mp hgs).1
  refine GenW.wpAny_gsz (n := g + 1) lt (wpAny_pyNext_genexpQ (P := fun n s₀ s1 => ∃ j H, n + j = N ∧ Inv Z [] σw H s1 ∧ En j H ∧ (∀ b ∈ ss, H b = none) ∧ ∀ b ∈ ss, ∀ o, s₀.heap.get? b = some o → s1.heap.get? b = some o) hh I.nolimit hroom (hgo (pins I)) hgs
    (hgoes _ (kept_setGen I.bare rfl fun b hb => (hs b hb).2)) (fun v s1 gs' hb hv => ?_) fun s1 hp h' hk => ?_)
  · intro hsz
    obtain ⟨i', r, j, y, H', e1, e2, ga, yd, old, kap⟩ := hv
    have k1 : Kept ss s1 (s1.setGen g gs') := kept_setGen ga.inv.bare hb fun b hb => (ga.ss b hb).2
    refine hY v _ i' r j y H' e1 e2 (ga.sleep T M k1) yd old fun r' hr' w' => ?_
    have kz : ∀ s', Kept ss (s1.setGen g gs') s' → Kept ss s1 s' := fun s' k => ⟨k.os, k.bare, k.keep, k.there⟩
    cases n with
    | zero => exact (kap s1 r' hr' w' ⟨rfl, ga.inv.bare, fun _ _ _ e => e, fun b hb => (ga.ss b hb).2⟩).elim
    | succ m =>
      have hsz1 : g < s1.gens.size := by
        have q : (s1.setGen g gs').gens.size = s1.gens.size := GenW.setGen_size _ _ _
        have hsz' : g + 1 ≤ (s1.setGen g gs').gens.size := hsz
        omega
      exact ⟨m, rfl, gs', setGen_at hsz1, fun s' k => kap s' r' hr' w' (kz s' k)⟩
  · intro hsz
    obtain ⟨j, H', e1, I', en, hn, old⟩ := hp
    have k1 : Kept [] s1 { s1.setGen g .finished with heap := h' } := ⟨rfl, allBare_setGen I'.bare rfl, fun b o _ e => hk b o e, fun b hb => by simp at hb⟩
    exact hE _ j H' e1 (inv_sleep (fp := fp) ⟨fun b hb => by simp at hb⟩ I' (fun b hb => by simp at hb) k1) en hn fun b hb o e => hk b o (old b hb o e)
end
end BK
set_option Elab.async false
set_option linter.all false
set_option maxRecDepth 100000
set_option maxHeartbeats 4000000
/-! KitY: all, any, sum of a generator expression whose element runs in the layer. -/
namespace BK
open PySem PySem.Spec PyProof.Rows L2 LamX
/-- a generator just made: X's context stands at s4, the generator at s5 -/
structure Born (X : Cx) (pins : List (Addr × Obj)) (σ : L2.St) (own : List (Str × Nat)) (tg elt iter : Expr) (ifs : List Expr) (scope : Scope) (gpos : Pos) (J : It) (H2 : Hp) (s4 s5 : Shared) (fp : List Addr) (it : Addr) (tn : Nat → Heap → Prop) (code : Value) (a : Addr) (go : Obj) (g : Nat) : Prop where
  I : Inv X pins σ H2 s4
  hfp : ∀ b ∈ fp, FpOk X pins H2 b ∧ b < s4.heap.objs.size
  T : Turn X.prog X.w X.K tg J fp it tn
  t0 : tn 0 s4.heap
  os : s5.os = s4.os
  bare : AllBare s5.gens
  keep : ∀ b o, s4.heap.get? b = some o → s5.heap.get? b = some o
  ns : s5.heap.Ns s4.heap.objs.size fun y => if y = ".0" then some (.ref it) else none
  ga : s5.heap.get? a = some go
  ca : s4.heap.objs.size < a
  al : a < s5.heap.objs.size
  gn : ∀ h : Heap, h.get? a = some go → h.IsGen a g
  gc : ∀ v, go.data ≠ .cell v
  gg : s5.gens[g]? = some (.fresh (.compStart (.GeneratorExp elt [⟨tg, iter, ifs, 0⟩] scope gpos) 0 (.ref it) .none (gEnv X scope s4.heap.objs.size code)))
section
variable {X : Cx} {pins : List (Addr × Obj)} {σ : L2.St} {H : Hp} {s : Shared}
theorem gen_born {c P : Addr} {elt iter tg : Expr} {ifs : List Expr} {gpos : Pos} {scope : Scope} {own : List (Str × Nat)} {wi : TI} {Q' : Value → Shared → Prop} {R : It → Hp → Prop} (hroom : X.A.depth < recursionLimit)
    (TB : GxR.TabB X.base X.mg c P) (hcode : X.env.code = .ref c) (S : GenN X.N X.env.scope scope own) (hi : PI X tg iter wi) (hs : ∀ v, genFold iter X.env v = pure v)
    (I : Inv X pins σ H s) (h : wi σ H R) (hR : ∀ J H1, R J H1 → TabS H1 P (X.env.qual ++ "<genexpr>"))
    (hQ : ∀ (J : It) (H1 H2 : Hp) (s4 s5 : Shared) (fp : List Addr) (it : Addr) (tn : Nat → Heap → Prop) (code : Value) (a : Addr) (go : Obj) (g : Nat), R J H1 → Grow P (X.env.qual ++ "<genexpr>") H1 H2 → Born X pins σ own tg elt iter ifs scope gpos J H2 s4 s5 fp it tn code a go g → Q' (.ref a) s5) :
    wpAny (model X.prog X.w) X.A (eval (.GeneratorExp elt [⟨tg, iter, ifs, 0⟩] scope gpos) X.env) Q' X.xe s := by
  have hfree : ∀ y ∈ scope.names, y.2 = .free → ∃ c, X.env.cells.lookup y.1 = some c := fun y hy e => by
    rcases S.blk.free y hy e with k | k
    · exact I.ok.has _ (.inl k)
    · exact I.ok.has _ (.inr k)
  refine wpAny_GeneratorExp_make S.co (closure_ok hfree) S.cell S.dot S.blk.kind hroom (thn (hi.run pins s σ H _ I h) fun xv s1 h1 => thn h1 fun itv s2 h2 => ?_) hs
  obtain ⟨it, fp, tn, J, H1, e, I2, T, st2, f2, r⟩ := h2
  subst e
  refine ⟨I2.nolimit, ?_⟩
  have tS := hR J H1 r
  obtain ⟨ps, hP, _, _⟩ := id tS
  refine code_grow I2 hcode TB tS fun code h3 tk H3 I3 gr ext sz old => ?_
  obtain ⟨bm, ob, e1, e2, e3, e4, e5, e6, e7, e8⟩ := TB.bm
  have hbm : h3.get? bm = some ob := ext _ _ e4 (I2.bk _ _ e5)
  refine wpAny_builtinsFor (m := X.mg) (by rw [I2.ok.glob]; exact (I2.mod.glob.keeps I2.bk).extBut ext TB.gP) e1 e2 hbm e6 e7 e8 ?_
  intro h' hns hsb
  have nP : ∀ b ∈ fp, b ≠ P := fun b hb z => by
    have := (f2 b hb).1
    rw [z, hP] at this
    cases this
  have lt2 : ∀ b ∈ fp, b < s2.heap.objs.size := fun b hb => by
    obtain ⟨o, e, _⟩ := T.obj _ _ st2 b hb
    exact Heap.lt_size e
  have sz' : h'.objs.size = h3.objs.size + 1 := by rw [hsb.1, Heap.size_push]
  have keep' : ∀ b o, h3.get? b = some o → h'.get? b = some o := fun b o e => hsb.extBut b o (Nat.ne_of_lt (Heap.lt_size e)) (Heap.get?_push_of_some _ e)
  refine hQ J H1 H3 { s2 with heap := h3, toks := tk } _ fp it tn code h'.objs.size { cls := .type "generator", data := .fields #[.int s2.gens.size 0, .str "<genexpr>" (tk + 1), .str (X.env.qual ++ "<genexpr>") (tk + 1 + 1)] } s2.gens.size r gr ⟨I3, fun b hb => ⟨⟨old b (lt2 b hb) (f2 b hb).1, (f2 b hb).2⟩, Nat.lt_of_lt_of_le (lt2 b hb) sz⟩, T, ?_, rfl, ?_, fun b o e => Heap.get?_push_of_some _ (keep' b o e), hns.push _, Heap.get?_push_size _ rfl, ?_, ?_, fun h e => ⟨_, _, _, e, rfl, rfl, rfl⟩, (fun v z => by cases z), Array.getElem?_push_size ..⟩
  · exact T.keep _ _ _ st2 fun b hb o e => ext b o (nP b hb) e
  · exact AllBare.push I3.bare rfl
  · show h3.objs.size < h'.objs.size
    omega
  · show h'.objs.size < (h'.push _).objs.size
    rw [Heap.size_push]
    exact Nat.lt_succ_self _
variable {own : List (Str × Nat)} {tg elt iter : Expr} {ifs : List Expr} {scope : Scope} {gpos : Pos} {J : It} {H2 : Hp} {s4 s5 : Shared} {fp : List Addr} {it : Addr} {tn : Nat → Heap → Prop} {code : Value} {a : Addr} {go : Obj} {g : Nat}
/-- back in the def's context -/
theorem Born.back (b : Born X pins σ own tg elt iter ifs scope gpos J H2 s4 s5 fp it tn code a go g) {B : Around} {σw : L2.St} {H' : Hp} {s' : Shared} (I' : Inv (gCx X B s4 H2 scope s4.heap.objs.size code fp [(a, go)]) [] σw H' s') : Inv X pins σ H' s' :=
  b.I.call' (ch := fp) I'.os I'.base I'.hok I'.bare fun c hc => ⟨(b.hfp c hc).1.2.2.2.1, (b.hfp c hc).1.2.1, (b.hfp c hc).1.2.2.2.2.1, (b.hfp c hc).1.2.2.2.2.2⟩
theorem Born.start (b : Born X pins σ own tg elt iter ifs scope gpos J H2 s4 s5 fp it tn code a go g) (S : GenN X.N X.env.scope scope own) (hN : X.N.Nodup) {B : Around} (hh : B.handled = none) (hB : B.frames = some X.stack) :
    Inv (gCx X B s4 H2 scope s4.heap.objs.size code fp [(a, go)]) [] (wipe σ (own.map (·.2))) H2 s5 := by
  have h := g_start (B := B) (code := code) (tk := s5.toks) (gs := s5.gens) b.I S hN hh hB b.hfp b.ns b.keep b.bare b.ga b.ca b.gc
  have e : ({ s4 with heap := s5.heap, toks := s5.toks, gens := s5.gens } : Shared).os = s5.os := b.os.symm
  exact inv_sleep (fp := []) (ss := []) ⟨fun c hc => by simp at hc⟩ h (fun c hc => by simp at hc) ⟨e.symm, b.bare, fun _ _ _ z => z, fun c hc => by simp at hc⟩
/-- the consumer's things ss, new behind the generator -/
theorem Born.mine (b : Born X pins σ own tg elt iter ifs scope gpos J H2 s4 s5 fp it tn code a go g) (S : GenN X.N X.env.scope scope own) (B : Around) {ss : List Addr} (hss : ∀ c ∈ ss, s5.heap.objs.size ≤ c) : Mine (gCx X B s4 H2 scope s4.heap.objs.size code fp [(a, go)]) fp ss := by
  have l4 : s4.heap.objs.size < s5.heap.objs.size := Nat.lt_trans b.ca b.al
  refine ⟨fun c hc => ?_⟩
  have h := hss c hc
  have h4 : s4.heap.objs.size < c := Nat.lt_of_lt_of_le l4 h
  refine ⟨Nat.ne_of_gt h4, fun z => ?_, Nat.le_of_lt h4, fun y d e z => ?_, fun p hp z => ?_, fun z => Nat.lt_irrefl _ (Nat.lt_trans (b.hfp c z).2 h4)⟩
  · have z : c ∈ frs X.stack := z
    rcases List.mem_cons.mp (b.I.stkSub c z) with q | q
    · have := b.I.lt
      rw [← q] at this
      exact Nat.lt_irrefl _ (Nat.lt_trans this h4)
    · exact b.I.nofs (Nat.le_of_lt h4) q
  · have e : (cloFrom X.env.cells scope.names []).lookup y = some d := e
    have k : X.env.cells.lookup y = some d := by
      rcases cloFrom_mem (PySem.mem_of_lookup e) with hm | ⟨h1, h2⟩
      · cases hm
      · rcases S.blk.free _ h1 rfl with k | k
        · obtain ⟨c1, hc⟩ := b.I.ok.has _ (.inl k)
          rw [h2, hc]
          rfl
        · obtain ⟨c1, hc⟩ := b.I.ok.has _ (.inr k)
          rw [h2, hc]
          rfl
    obtain ⟨v, q⟩ := b.I.cell y d k
    have := q.lt
    rw [z] at this
    exact Nat.lt_irrefl _ (Nat.lt_trans this h4)
  · have e : p = (a, go) := by simpa using hp
    rw [e] at z
    have z : a = c := z
    have := b.al
    rw [z] at this
    exact Nat.lt_irrefl _ (Nat.lt_of_lt_of_le this h)
/-- all is ready for the drawing -/
theorem Born.gen (b : Born X pins σ own tg elt iter ifs scope gpos J H2 s4 s5 fp it tn code a go g) (S : GenN X.N X.env.scope scope own) {B : Around} {ss : List Addr} {gt : TG} {tt : TT} {te : TE} (hss : ∀ c ∈ ss, s5.heap.objs.size ≤ c)
    (hg : PG (gCx X B s4 H2 scope s4.heap.objs.size code fp [(a, go)]) tg gt) (ht : PTs (gCx X B s4 H2 scope s4.heap.objs.size code fp [(a, go)]) ifs tt) (he : PE (gCx X B s4 H2 scope s4.heap.objs.size code fp [(a, go)]) elt te) :
    Gen (gCx X B s4 H2 scope s4.heap.objs.size code fp [(a, go)]) B tg ifs elt J fp ss it tn gt tt te where
  hA := rfl
  hcalm := rfl
  hco := S.co
  hxe := rfl
  T := b.T
  hfx := rfl
  hfpn := fun p hp c hc z => by
    have e : p = (a, go) := by simpa using hp
    rw [e] at z
    have z : a = c := z
    have := (b.hfp c hc).2
    rw [← z] at this
    exact Nat.lt_irrefl _ (Nat.lt_trans this b.ca)
  M := b.mine S B hss
  hg := hg
  ht := ht
  he := he
/-- it sleeps at its beginning, in a state s6 where the consumer's things are laid -/
theorem Born.asleep (b : Born X pins σ own tg elt iter ifs scope gpos J H2 s4 s5 fp it tn code a go g) (S : GenN X.N X.env.scope scope own) (hN : X.N.Nodup) {B : Around} (hh : B.handled = none) (hB : B.frames = some X.stack) {ss : List Addr} {gt : TG} {tt : TT} {te : TE} {Wt : Nat → Nat → Nat → Hp → Prop} {Yd : Nat → Nat → Nat → V → Hp → Prop} {En : Nat → Hp → Prop} {N r : Nat}
    (G : Gen (gCx X B s4 H2 scope s4.heap.objs.size code fp [(a, go)]) B tg ifs elt J fp ss it tn gt tt te) (turn : Turns J gt tt te σ (own.map (·.2)) Wt Yd En N) (w : Wt 0 r 0 H2) (hss : ∀ c ∈ ss, s5.heap.objs.size ≤ c) {s6 : Shared} (k : Kept ss s5 s6) (hgg : s6.gens = s5.gens) :
    GAt (gCx X B s4 H2 scope s4.heap.objs.size code fp [(a, go)]) (wipe σ (own.map (·.2))) fp ss tn 0 H2 s6 ∧ Sleeps (gCx X B s4 H2 scope s4.heap.objs.size code fp [(a, go)]) B (wipe σ (own.map (·.2))) fp ss tn Wt Yd En N g N s6 := by
  have I5 := b.start S hN hh hB
  have hn : ∀ c ∈ ss, H2 c = none := fun c hc => I5.hok.fresh (hss c hc)
  have nfp : ∀ c ∈ fp, c ∉ ss := fun c hc z => by
    have h1 := (b.hfp c hc).2
    have h2 := hss c z
    exact Nat.lt_irrefl _ (Nat.lt_trans (Nat.lt_of_lt_of_le h1 (Nat.le_trans (Nat.le_of_lt (Nat.lt_trans b.ca b.al)) h2)) (Nat.lt_succ_self _) |> fun _ => Nat.lt_of_lt_of_le h1 (Nat.le_trans (Nat.le_of_lt (Nat.lt_trans b.ca b.al)) h2))
  have ga : GAt (gCx X B s4 H2 scope s4.heap.objs.size code fp [(a, go)]) (wipe σ (own.map (·.2))) fp ss tn 0 H2 s6 :=
    ⟨inv_sleep G.M I5 hn k, b.T.keep _ _ _ b.t0 fun c hc o e => k.keep c o (nfp c hc) (b.keep c o e), fun c hc => (b.hfp c hc).1.1, fun c hc => ⟨hn c hc, k.there c hc⟩⟩
  refine ⟨ga, .fresh _, by rw [hgg]; exact b.gg, fun s' k' => ⟨rfl, ?_⟩⟩
  exact seg_begin (iter := iter) (scope := scope) (pos := gpos) G turn r s' s' H2 w (ga.sleep b.T G.M k') fun _ _ _ e => e
theorem frames_in1 {A : Around} {l : List Env} (h : A.frames = some l) : A.in1.frames = some l := h
end
/-! ### all, any -/
section
variable {Z : Cx} {A : Around} {σw : L2.St} {fp : List Addr} {tn : Nat → Heap → Prop} {Wt : Nat → Nat → Nat → Hp → Prop} {N g : Nat} {a : Addr} {P : Program} {w : World} {K : PySem.W.Frag} {tg : Expr} {J : It} {it : Addr} {Fin : Bool → Hp → Prop} {R : Result → Shared → Prop}
/-- what is wanted of an item: it goes on at the answer b0, else it is the end -/
abbrev ydB (b0 : Bool) (Wt : Nat → Nat → Nat → Hp → Prop) (Fin : Bool → Hp → Prop) : Nat → Nat → Nat → V → Hp → Prop := fun i r j y H => ∃ b, y = .bl b ∧ if b = b0 then ∃ r', r' < r ∧ Wt (i + 1) r' (j + 1) H else Fin b H
theorem all_draws (hh : A.handled = none) (hroom : A.depth < recursionLimit) (T : Turn P w K tg J fp it tn) (M : Mine Z fp []) (hgo : ∀ {h : Heap}, (∀ p ∈ Z.pn, h.get? p.1 = some p.2) → h.IsGen a g)
    (hR : ∀ b H s', Inv Z [] σw H s' → Fin b H → R (.ok (.ret (.bool b))) s') : ∀ (n : Nat) (s : Shared) (H : Hp), Inv Z [] σw H s → Sleeps Z A.in1.in1 σw fp [] tn Wt (ydB true Wt Fin) (fun _ H => Fin true H) N g n s →
      codeAny (model Z.prog Z.w) A (.builtin "all.loop" ⟨[.ref a], []⟩) R s := by
  intro n
  induction n with
  | zero =>
    intro s H I sl
    refine codeAny_builtin F.entry_all_loop ?_
    rw [Around.under_plainId F.plain_all_loop _]
    show wpAny _ A.in1 (pyNext (.ref a) >>= _) _ _ s
    refine wpAny_bind (gen_next (A := A.in1) hh hroom T M hgo I (fun b hb => by simp at hb) sl (fun v s1 i r j y H' _ rv ga yd _ more => ?_) fun s1 j H' _ I' en _ _ => ?_)
    · obtain ⟨b, rfl, q⟩ := yd
      obtain rfl : v = Value.bool b := rv
      refine wpAny_bind (wpAny_holding (wpAny_truthy_bool ?_))
      refine wpAny_bind (wpAny_letGo ?_)
      cases b with
      | true =>
        obtain ⟨r', hr', w'⟩ := q
        obtain ⟨m, e, _⟩ := more r' hr' w'
        cases e
      | false =>
        simp only [Bool.false_eq_true, if_false] at q ⊢
        exact wpAny_bind (wpAny_rule (wpAny_pure (hR _ _ _ ga.inv q)))
    · exact wpAny_bind (wpAny_rule (wpAny_pure (hR _ _ _ I' en)))
  | succ n ih =>
    intro s H I sl
    refine codeAny_builtin F.entry_all_loop ?_
    rw [Around.under_plainId F.plain_all_loop _]
    show wpAny _ A.in1 (pyNext (.ref a) >>= _) _ _ s
    refine wpAny_bind (gen_next (A := A.in1) hh hroom T M hgo I (fun b hb => by simp at hb) sl (fun v s1 i r j y H' _ rv ga yd _ more => ?_) fun s1 j H' _ I' en _ _ => ?_)
    · obtain ⟨b, rfl, q⟩ := yd
      obtain rfl : v = Value.bool b := rv
      refine wpAny_bind (wpAny_holding (wpAny_truthy_bool ?_))
      refine wpAny_bind (wpAny_letGo ?_)
      cases b with
      | true =>
        obtain ⟨r', hr', w'⟩ := q
        obtain ⟨m, e, sl'⟩ := more r' hr' w'
        cases e
        simp only [if_true]
        exact wpAny_pure ⟨plainId_quiet F.plain_all_loop _, ih _ _ ga.inv sl'⟩
      | false =>
        simp only [Bool.false_eq_true, if_false] at q ⊢
        exact wpAny_bind (wpAny_rule (wpAny_pure (hR _ _ _ ga.inv q)))
    · exact wpAny_bind (wpAny_rule (wpAny_pure (hR _ _ _ I' en)))
theorem any_draws (hh : A.handled = none) (hroom : A.depth < recursionLimit) (T : Turn P w K tg J fp it tn) (M : Mine Z fp []) (hgo : ∀ {h : Heap}, (∀ p ∈ Z.pn, h.get? p.1 = some p.2) → h.IsGen a g)
    (hR : ∀ b H s', Inv Z [] σw H s' → Fin b H → R (.ok (.ret (.bool b))) s') : ∀ (n : Nat) (s : Shared) (H : Hp), Inv Z [] σw H s → Sleeps Z A.in1.in1 σw fp [] tn Wt (ydB false Wt Fin) (fun _ H => Fin false H) N g n s →
      codeAny (model Z.prog Z.w) A (.builtin "any.loop" ⟨[.ref a], []⟩) R s := by
  intro n
  induction n with
  | zero =>
    intro s H I sl
    refine codeAny_builtin F.entry_any_loop ?_
    rw [Around.under_plainId F.plain_any_loop _]
    show wpAny _ A.in1 (pyNext (.ref a) >>= _) _ _ s
    refine wpAny_bind (gen_next (A := A.in1) hh hroom T M hgo I (fun b hb => by simp at hb) sl (fun v s1 i r j y H' _ rv ga yd _ more => ?_) fun s1 j H' _ I' en _ _ => ?_)
    · obtain ⟨b, rfl, q⟩ := yd
      obtain rfl : v = Value.bool b := rv
      refine wpAny_bind (wpAny_holding (wpAny_truthy_bool ?_))
      refine wpAny_bind (wpAny_letGo ?_)
      cases b with
      | false =>
        obtain ⟨r', hr', w'⟩ := q
        obtain ⟨m, e, _⟩ := more r' hr' w'
        cases e
      | true =>
        simp only [if_true] at q ⊢
        exact wpAny_bind (wpAny_rule (wpAny_pure (hR _ _ _ ga.inv q)))
    · exact wpAny_bind (wpAny_rule (wpAny_pure (hR _ _ _ I' en)))
  | succ n ih =>
    intro s H I sl
    refine codeAny_builtin F.entry_any_loop ?_
    rw [Around.under_plainId F.plain_any_loop _]
    show wpAny _ A.in1 (pyNext (.ref a) >>= _) _ _ s
    refine wpAny_bind (gen_next (A := A.in1) hh hroom T M hgo I (fun b hb => by simp at hb) sl (fun v s1 i r j y H' _ rv ga yd _ more => ?_) fun s1 j H' _ I' en _ _ => ?_)
    · obtain ⟨b, rfl, q⟩ := yd
      obtain rfl : v = Value.bool b := rv
      refine wpAny_bind (wpAny_holding (wpAny_truthy_bool ?_))
      refine wpAny_bind (wpAny_letGo ?_)
      cases b with
      | false =>
        obtain ⟨r', hr', w'⟩ := q
        obtain ⟨m, e, sl'⟩ := more r' hr' w'
        cases e
        simp only [Bool.false_eq_true, if_false]
        exact wpAny_pure ⟨plainId_quiet F.plain_any_loop _, ih _ _ ga.inv sl'⟩
      | true =>
        simp only [if_true] at q ⊢
        exact wpAny_bind (wpAny_rule (wpAny_pure (hR _ _ _ ga.inv q)))
    · exact wpAny_bind (wpAny_rule (wpAny_pure (hR _ _ _ I' en)))
end
section
variable {X : Cx}
/-- all(..), any(..): b0 goes on -/
def tAllX (b0 : Bool) (P : Addr) (q : Str) (wi : TI) (g : TG) (tt : TT) (te : TE) (vs : List Nat) : TE := fun σ H Q => wi σ H fun J H1 => TabS H1 P q ∧ ∀ H2, Grow P q H1 H2 → ∃ (N : Nat) (Wt : Nat → Nat → Nat → Hp → Prop), (∃ r, Wt 0 r 0 H2) ∧
  Turns J g tt te σ vs Wt (ydB b0 Wt fun b H => Q (.bl b) H) (fun _ H => Q (.bl b0) H) N
variable {c P : Addr} {elt iter tg : Expr} {ifs : List Expr} {p pos gpos : Pos} {scope : Scope} {own : List (Str × Nat)} {wi : TI} {g : TG} {tt : TT} {te : TE} {k : Nat}
theorem pe_allX (hr : Room (k + 1) X.A) (hg : Gl X "all") (hm : X.mg "all" = none) (hb : bootBuiltins "all" = some (.builtin "all")) (TB : GxR.TabB X.base X.mg c P) (hcode : X.env.code = .ref c) (S : GenN X.N X.env.scope scope own) (hN : X.N.Nodup) (hi : PI X tg iter wi)
    (hgt : ∀ (B : Around) (s : Shared) (H : Hp) (C : Addr) (code : Value) (fp : List Addr) (pn : List (Addr × Obj)), PG (gCx X B s H scope C code fp pn) tg g) (ht : ∀ (B : Around) (s : Shared) (H : Hp) (C : Addr) (code : Value) (fp : List Addr) (pn : List (Addr × Obj)), PTs (gCx X B s H scope C code fp pn) ifs tt)
    (he : ∀ (B : Around) (s : Shared) (H : Hp) (C : Addr) (code : Value) (fp : List Addr) (pn : List (Addr × Obj)), Room k (B.deeper (gEnv X scope C code)) → PE (gCx X B s H scope C code fp pn) elt te) (hs : ∀ v, genFold iter X.env v = pure v := by intro _; rfl)
    (hst : starEach [.GeneratorExp elt [⟨tg, iter, ifs, 0⟩] scope gpos] X.env = (false, eval (.GeneratorExp elt [⟨tg, iter, ifs, 0⟩] scope gpos) X.env) :: starEach [] X.env := by rfl) :
    PE X (.Call (.Name "all" p) [.GeneratorExp elt [⟨tg, iter, ifs, 0⟩] scope gpos] [] pos) (tAllX true P (X.env.qual ++ "<genexpr>") wi g tt te (own.map (·.2))) := by
  constructor
  intro pins s σ H Q I h
  apply wpAny_Call_Name_kw
  apply ld_blt I hg hm hb
  apply PyProof.Rows.callWith_builtin1 _ hst (by rfl)
  rw [hst]
  show wpAny _ _ (spliced ((false, eval (.GeneratorExp elt [⟨tg, iter, ifs, 0⟩] scope gpos) X.env) :: backTo pos (starEach [] X.env))) _ _ s
  apply Calls.spliced_cons
  refine gen_born (own := own) (by have := hr.dp; omega) TB hcode S hi hs I h (fun J H1 z => z.1) fun J H1 H2 s4 s5 fp it tn code a go g' z gr bn => ?_
  obtain ⟨N, Wt, ⟨r, w⟩, turn⟩ := z.2 H2 gr
  apply Calls.spliced_nil
  refine call_function_tree F.kind_all F.plain_all F.entry_all (F.args_all1 _) ?_
  unfold Builtin.«all»
  refine wpAny_bind (m := oneArg "all" _) (wpAny_pure ?_)
  refine wpAny_bind (wpAny_pyIter_gen (bn.gn _ bn.ga) ?_)
  have hrB : Room k (X.A.in1.in1.deeper (gEnv X scope s4.heap.objs.size code)) := ⟨hr.hd, by have := hr.dp; show X.A.depth + 1 + 3 * k + 5 < _; omega, by have := hr.un; show X.A.units + 1 + 1 + 3 + 16 * k + 200 < _; omega⟩
  have G := bn.gen (B := X.A.in1.in1) (ss := []) S (fun c hc => by simp at hc) (hgt _ _ _ _ _ _ _) (ht _ _ _ _ _ _ _) (he _ _ _ _ _ _ _ hrB)
  obtain ⟨ga, sl⟩ := bn.asleep (B := X.A.in1.in1) S hN hr.hd (show X.A.in1.in1.frames = some X.stack from I.ok.frames) G turn w (fun c hc => by simp at hc) ⟨rfl, bn.bare, fun _ _ _ e => e, fun c hc => by simp at hc⟩ rfl
  refine wpAny_pure ⟨plainId_quiet F.plain_all_loop _, all_draws (N := N) (g := g') hr.hd (by have := hr.dp; omega) bn.T G.M (fun e => bn.gn _ (e (a, go) (by simp))) (fun b H' s' I' q => ?_) N s5 H2 ga.inv sl⟩
  exact ⟨.bl b, H', bn.back I', rfl, q⟩
theorem pe_anyX (hr : Room (k + 1) X.A) (hg : Gl X "any") (hm : X.mg "any" = none) (TB : GxR.TabB X.base X.mg c P) (hcode : X.env.code = .ref c) (S : GenN X.N X.env.scope scope own) (hN : X.N.Nodup) (hi : PI X tg iter wi)
    (hgt : ∀ (B : Around) (s : Shared) (H : Hp) (C : Addr) (code : Value) (fp : List Addr) (pn : List (Addr × Obj)), PG (gCx X B s H scope C code fp pn) tg g) (ht : ∀ (B : Around) (s : Shared) (H : Hp) (C : Addr) (code : Value) (fp : List Addr) (pn : List (Addr × Obj)), PTs (gCx X B s H scope C code fp pn) ifs tt)
    (he : ∀ (B : Around) (s : Shared) (H : Hp) (C : Addr) (code : Value) (fp : List Addr) (pn : List (Addr × Obj)), Room k (B.deeper (gEnv X scope C code)) → PE (gCx X B s H scope C code fp pn) elt te) (hs : ∀ v, genFold iter X.env v = pure v := by intro _; rfl)
    (hst : starEach [.GeneratorExp elt [⟨tg, iter, ifs, 0⟩] scope gpos] X.env = (false, eval (.GeneratorExp elt [⟨tg, iter, ifs, 0⟩] scope gpos) X.env) :: starEach [] X.env := by rfl) :
    PE X (.Call (.Name "any" p) [.GeneratorExp elt [⟨tg, iter, ifs, 0⟩] scope gpos] [] pos) (tAllX false P (X.env.qual ++ "<genexpr>") wi g tt te (own.map (·.2))) := by
  constructor
  intro pins s σ H Q I h
  apply wpAny_Call_Name_kw
  apply ld_blt I hg hm boot_any
  apply PyProof.Rows.callWith_builtin1 _ hst (by rfl)
  rw [hst]
  show wpAny _ _ (spliced ((false, eval (.GeneratorExp elt [⟨tg, iter, ifs, 0⟩] scope gpos) X.env) :: backTo pos (starEach [] X.env))) _ _ s
  apply Calls.spliced_cons
  refine gen_born (own := own) (by have := hr.dp; omega) TB hcode S hi hs I h (fun J H1 z => z.1) fun J H1 H2 s4 s5 fp it tn code a go g' z gr bn => ?_
  obtain ⟨N, Wt, ⟨r, w⟩, turn⟩ := z.2 H2 gr
  apply Calls.spliced_nil
  refine call_function_tree F.kind_any F.plain_any F.entry_any (F.args_any1 _) ?_
  unfold Builtin.«any»
  refine wpAny_bind (m := oneArg "any" _) (wpAny_pure ?_)
  refine wpAny_bind (wpAny_pyIter_gen (bn.gn _ bn.ga) ?_)
  have hrB : Room k (X.A.in1.in1.deeper (gEnv X scope s4.heap.objs.size code)) := ⟨hr.hd, by have := hr.dp; show X.A.depth + 1 + 3 * k + 5 < _; omega, by have := hr.un; show X.A.units + 1 + 1 + 3 + 16 * k + 200 < _; omega⟩
  have G := bn.gen (B := X.A.in1.in1) (ss := []) S (fun c hc => by simp at hc) (hgt _ _ _ _ _ _ _) (ht _ _ _ _ _ _ _) (he _ _ _ _ _ _ _ hrB)
  obtain ⟨ga, sl⟩ := bn.asleep (B := X.A.in1.in1) S hN hr.hd (show X.A.in1.in1.frames = some X.stack from I.ok.frames) G turn w (fun c hc => by simp at hc) ⟨rfl, bn.bare, fun _ _ _ e => e, fun c hc => by simp at hc⟩ rfl
  refine wpAny_pure ⟨plainId_quiet F.plain_any_loop _, any_draws (N := N) (g := g') hr.hd (by have := hr.dp; omega) bn.T G.M (fun e => bn.gn _ (e (a, go) (by simp))) (fun b H' s' I' q => ?_) N s5 H2 ga.inv sl⟩
  exact ⟨.bl b, H', bn.back I', rfl, q⟩
end
end BK
set_option Elab.async false
set_option linter.all false
set_option maxRecDepth 100000
set_option maxHeartbeats 4000000
/-! KitU: sum of a generator expression whose element runs in the layer. -/
namespace BK
open PySem PySem.Spec PyProof.Rows L2 LamX
abbrev accO (i : Int) (t : Tok) (c : Nat) : Obj := { cls := .type "list", dict := none, data := .seq #[.int i t] c, slots := #[] }
theorem Kept.trans {ss : List Addr} {s s1 s2 : Shared} (a : Kept ss s s1) (b : Kept ss s1 s2) : Kept ss s s2 :=
  ⟨b.os.trans a.os, b.bare, fun c o n e => b.keep c o n (a.keep c o n e), b.there⟩
theorem sleeps_on {Z : Cx} {B : Around} {σw : L2.St} {fp ss : List Addr} {tn : Nat → Heap → Prop} {Wt : Nat → Nat → Nat → Hp → Prop} {Yd : Nat → Nat → Nat → V → Hp → Prop} {En : Nat → Hp → Prop} {N g n : Nat} {s s' : Shared}
    (h : Sleeps Z B σw fp ss tn Wt Yd En N g n s) (k : Kept ss s s') (e : s'.gens = s.gens) : Sleeps Z B σw fp ss tn Wt Yd En N g n s' := by
  obtain ⟨gs, hg, go⟩ := h
  exact ⟨gs, by rw [e]; exact hg, fun s2 k2 => go s2 (k.trans k2)⟩
section
variable {Z : Cx} {A : Around} {σw : L2.St} {fp : List Addr} {tn : Nat → Heap → Prop} {Wt : Nat → Nat → Nat → Hp → Prop} {N g : Nat} {a S : Addr} {P : Program} {w : World} {K : PySem.W.Frag} {tg : Expr} {J : It} {it : Addr} {val : Nat → Int} {Fin : Int → Hp → Prop} {R : Result → Shared → Prop}
abbrev ydS (val : Nat → Int) (Wt : Nat → Nat → Nat → Hp → Prop) : Nat → Nat → Nat → V → Hp → Prop := fun i r j y H => y = .int (val j) ∧ ∃ r', r' < r ∧ Wt (i + 1) r' (j + 1) H
/-- the accumulator is written -/
theorem acc_kept {s : Shared} {o : Obj} {f : Obj → Obj} {o' : Obj} {tk : Nat} (hS : s.heap.get? S = some o) (hb : AllBare s.gens) (hf : f o = o') (hnf : (f o).isFreed = false) (hc : ∀ v, o'.data ≠ .cell v) : Kept [S] s { s with heap := s.heap.update S f, toks := tk } where
  os := rfl
  bare := hb
  keep := fun b ob n e => (Heap.get?_update_other _ _ (fun z => n (by rw [z]; exact List.mem_singleton.mpr rfl))).trans e
  there := fun b hb' => by
    rw [List.mem_singleton.mp hb']
    exact ⟨o', by rw [← hf]; exact Heap.get?_update_self f hS hnf, hc⟩
theorem sum_draws (hh : A.handled = none) (hroom : A.depth < recursionLimit) (T : Turn P w K tg J fp it tn) (M : Mine Z fp [S]) (hgo : ∀ {h : Heap}, (∀ p ∈ Z.pn, h.get? p.1 = some p.2) → h.IsGen a g)
    (hR : ∀ j t H s', Inv Z [] σw H s' → Fin (preSum val j) H → R (.ok (.ret (.int (preSum val j) t))) s') : ∀ (n : Nat) (s : Shared) (H : Hp) (j : Nat) (tA : Tok) (c : Nat) (st : Int), (st = 0 ∨ st = 2) → n + j = N → Inv Z [] σw H s → H S = none → s.heap.get? S = some (accO (preSum val j) tA c) →
      Sleeps Z A.in1.in1 σw fp [S] tn Wt (ydS val Wt) (fun j H => Fin (preSum val j) H) N g n s → codeAny (model Z.prog Z.w) A (.builtin "sum.loop" ⟨[.ref a, .ref S, rawInt st, rawInt 0], []⟩) R s := by
  have one : ∀ (n : Nat) (ih : ∀ m, n = m + 1 → ∀ (s : Shared) (H : Hp) (j : Nat) (tA : Tok) (c : Nat) (st : Int), (st = 0 ∨ st = 2) → m + j = N → Inv Z [] σw H s → H S = none → s.heap.get? S = some (accO (preSum val j) tA c) →
      Sleeps Z A.in1.in1 σw fp [S] tn Wt (ydS val Wt) (fun j H => Fin (preSum val j) H) N g m s → codeAny (model Z.prog Z.w) A (.builtin "sum.loop" ⟨[.ref a, .ref S, rawInt st, rawInt 0], []⟩) R s)
      (s : Shared) (H : Hp) (j : Nat) (tA : Tok) (c : Nat) (st : Int), (st = 0 ∨ st = 2) → n + j = N → Inv Z [] σw H s → H S = none → s.heap.get? S = some (accO (preSum val j) tA c) →
      Sleeps Z A.in1.in1 σw fp [S] tn Wt (ydS val Wt) (fun j H => Fin (preSum val j) H) N g n s → codeAny (model Z.prog Z.w) A (.builtin "sum.loop" ⟨[.ref a, .ref S, rawInt st, rawInt 0], []⟩) R s := by
    intro n ih s H j tA c st hst hnj I hn hS sl
    refine codeAny_builtin F.entry_sum_loop ?_
    rw [Around.under_plainId F.plain_sum_loop _]
    show wpAny _ A.in1 (seqItems? (.ref S) >>= _) _ _ s
    refine wpAny_bind (wpAny_seqItems hS rfl ?_)
    show wpAny _ A.in1 (tryCatch (pyNext (.ref a)) _ >>= _) _ _ s
    have owns : ∀ {o : Obj} {H' : Hp} {s' : Shared}, H' S = none → s'.heap.get? S = some o → (∀ v, o.data ≠ .cell v) → ∀ b ∈ [S], H' b = none ∧ ∃ o, s'.heap.get? b = some o ∧ ∀ v, o.data ≠ .cell v := fun {o H' s'} h1 h2 h3 b hb => by
      rw [List.mem_singleton.mp hb]
      exact ⟨h1, o, h2, h3⟩
    refine wpAny_bind (wpAny_tryCatch (gen_next (A := A.in1) hh hroom T M hgo I (owns hn hS fun v z => by cases z) sl (fun v s1 i r j' y H' e1 rv ga yd old more => ?_) fun s1 j' H' e1 I' en hn' old => ?_))
    · obtain ⟨rfl, r', hr', w'⟩ := yd
      obtain ⟨m, rfl, sl1⟩ := more r' hr' w'
      have ej : j' = j := by omega
      subst ej
      obtain ⟨t, rfl⟩ := rv
      have hS1 : s1.heap.get? S = some (accO (preSum val j') tA c) := old S (List.mem_singleton.mpr rfl) _ hS
      have hn1 : H' S = none := (ga.ss S (List.mem_singleton.mpr rfl)).1
      -- behind the write
      have back : ∀ (c2 : Nat) (t2 : Tok) (st2 : Int) (s2 : Shared), (st2 = 0 ∨ st2 = 2) → Kept [S] s1 s2 → s2.gens = s1.gens → s2.heap.get? S = some (accO (preSum val j' + val j') t2 c2) →
          codeAny (model Z.prog Z.w) A (.builtin "sum.loop" ⟨[.ref a, .ref S, rawInt st2, rawInt 0], []⟩) R s2 := fun c2 t2 st2 s2 h1 k h2 h3 =>
        ih m rfl s2 H' (j' + 1) t2 c2 st2 h1 (by omega) (inv_sleep M ga.inv (fun b hb => (ga.ss b hb).1) k) hn1 h3 (sleeps_on sl1 k h2)
      rcases hst with rfl | rfl
      · show wpAny _ A.in1 (if (_ : Bool) = true then (mkInt (preSum val j' + val j') >>= _) else _) _ _ _
        split
        · refine wpAny_bind (wpAny_mkInt ?_)
          show wpAny _ A.in1 (updateSeq S (fun _ => #[.int (preSum val j' + val j') s1.toks]) >>= _) _ _ _
          refine wpAny_bind (wpAny_updateSeq hS1 rfl (wpAny_pure ⟨plainId_quiet F.plain_sum_loop _, ?_⟩))
          exact back _ s1.toks 0 _ (.inl rfl) (acc_kept (tk := s1.toks + 1) hS1 ga.inv.bare rfl rfl fun v z => by cases z) rfl (Heap.get?_update_self _ hS1 rfl)
        · refine wpAny_bind (wpAny_rule ?_)
          refine wpAny_bind (wpAny_attempt (wpAny_holding (wpAny_add_int ?_)))
          show wpAny _ A.in1 (updateSeq S (fun _ => #[.int (preSum val j' + val j') s1.toks]) >>= _) _ _ _
          refine wpAny_bind (wpAny_updateSeq hS1 rfl ?_)
          have hS2 := Heap.get?_update_self (Obj.mapSeq fun _ => #[Value.int (preSum val j' + val j') s1.toks]) hS1 rfl
          have k1 := acc_kept (S := S) (f := Obj.mapSeq fun _ => #[Value.int (preSum val j' + val j') s1.toks]) (tk := s1.toks + 1) hS1 ga.inv.bare rfl rfl fun v z => by cases z
          refine wpAny_bind (wpAny_letGo ?_)
          refine wpAny_bind (wpAny_updateSeq hS2 rfl (wpAny_pure ⟨plainId_quiet F.plain_sum_loop _, ?_⟩))
          exact back _ s1.toks 2 _ (.inr rfl) (k1.trans (acc_kept (s := { s1 with heap := s1.heap.update S (Obj.mapSeq fun _ => #[Value.int (preSum val j' + val j') s1.toks]), toks := s1.toks + 1 }) (tk := s1.toks + 1) hS2 ga.inv.bare rfl rfl fun v z => by cases z)) rfl (Heap.get?_update_self _ hS2 rfl)
      · show wpAny _ A.in1 ((holding [Value.int (val j') t] (binaryOp .Add (.int (preSum val j') tA) (.int (val j') t))).attempt >>= _) _ _ _
        refine wpAny_bind (wpAny_attempt (wpAny_holding (wpAny_add_int ?_)))
        show wpAny _ A.in1 (updateSeq S (fun _ => #[.int (preSum val j' + val j') s1.toks]) >>= _) _ _ _
        refine wpAny_bind (wpAny_updateSeq hS1 rfl ?_)
        have hS2 := Heap.get?_update_self (Obj.mapSeq fun _ => #[Value.int (preSum val j' + val j') s1.toks]) hS1 rfl
        have k1 := acc_kept (S := S) (f := Obj.mapSeq fun _ => #[Value.int (preSum val j' + val j') s1.toks]) (tk := s1.toks + 1) hS1 ga.inv.bare rfl rfl fun v z => by cases z
        refine wpAny_bind (wpAny_letGo ?_)
        refine wpAny_bind (wpAny_updateSeq hS2 rfl (wpAny_pure ⟨plainId_quiet F.plain_sum_loop _, ?_⟩))
        exact back _ s1.toks 2 _ (.inr rfl) (k1.trans (acc_kept (s := { s1 with heap := s1.heap.update S (Obj.mapSeq fun _ => #[Value.int (preSum val j' + val j') s1.toks]), toks := s1.toks + 1 }) (tk := s1.toks + 1) hS2 ga.inv.bare rfl rfl fun v z => by cases z)) rfl (Heap.get?_update_self _ hS2 rfl)
    · have ej : j' = j := by omega
      subst ej
      exact wpAny_pure (hR j' tA H' s1 I' en)
  intro n
  induction n with
  | zero => exact one 0 fun m e => by cases e
  | succ n ih =>
    refine one (n + 1) fun m e => ?_
    cases e
    exact ih
end
section
variable {X : Cx}
/-- sum(..) of ints: val j, the item j -/
def tSumX (P : Addr) (q : Str) (wi : TI) (g : TG) (tt : TT) (te : TE) (vs : List Nat) : TE := fun σ H Q => wi σ H fun J H1 => TabS H1 P q ∧ ∀ H2, Grow P q H1 H2 → ∃ (N : Nat) (val : Nat → Int) (Wt : Nat → Nat → Nat → Hp → Prop), (∃ r, Wt 0 r 0 H2) ∧
  Turns J g tt te σ vs Wt (ydS val Wt) (fun j H => Q (.int (preSum val j)) H) N
variable {c P : Addr} {elt iter tg : Expr} {ifs : List Expr} {p pos gpos : Pos} {scope : Scope} {own : List (Str × Nat)} {wi : TI} {g : TG} {tt : TT} {te : TE} {k : Nat}
theorem pe_sumX (hr : Room (k + 1) X.A) (hg : Gl X "sum") (hm : X.mg "sum" = none) (hb : bootBuiltins "sum" = some (.builtin "sum")) (TB : GxR.TabB X.base X.mg c P) (hcode : X.env.code = .ref c) (S : GenN X.N X.env.scope scope own) (hN : X.N.Nodup) (hi : PI X tg iter wi)
    (hgt : ∀ (B : Around) (s : Shared) (H : Hp) (C : Addr) (code : Value) (fp : List Addr) (pn : List (Addr × Obj)), PG (gCx X B s H scope C code fp pn) tg g) (ht : ∀ (B : Around) (s : Shared) (H : Hp) (C : Addr) (code : Value) (fp : List Addr) (pn : List (Addr × Obj)), PTs (gCx X B s H scope C code fp pn) ifs tt)
    (he : ∀ (B : Around) (s : Shared) (H : Hp) (C : Addr) (code : Value) (fp : List Addr) (pn : List (Addr × Obj)), Room k (B.deeper (gEnv X scope C code)) → PE (gCx X B s H scope C code fp pn) elt te) (hs : ∀ v, genFold iter X.env v = pure v := by intro _; rfl)
    (hst : starEach [.GeneratorExp elt [⟨tg, iter, ifs, 0⟩] scope gpos] X.env = (false, eval (.GeneratorExp elt [⟨tg, iter, ifs, 0⟩] scope gpos) X.env) :: starEach [] X.env := by rfl) :
    PE X (.Call (.Name "sum" p) [.GeneratorExp elt [⟨tg, iter, ifs, 0⟩] scope gpos] [] pos) (tSumX P (X.env.qual ++ "<genexpr>") wi g tt te (own.map (·.2))) := by
  constructor
  intro pins s σ H Q I h
  apply wpAny_Call_Name_kw
  apply ld_blt I hg hm hb
  apply PyProof.Rows.callWith_builtin1 _ hst (by rfl)
  rw [hst]
  show wpAny _ _ (spliced ((false, eval (.GeneratorExp elt [⟨tg, iter, ifs, 0⟩] scope gpos) X.env) :: backTo pos (starEach [] X.env))) _ _ s
  apply Calls.spliced_cons
  refine gen_born (own := own) (by have := hr.dp; omega) TB hcode S hi hs I h (fun J H1 z => z.1) fun J H1 H2 s4 s5 fp it tn code a go g' z gr bn => ?_
  obtain ⟨N, val, Wt, ⟨r, w⟩, turn⟩ := z.2 H2 gr
  apply Calls.spliced_nil
  have hrB : Room k (X.A.in1.in1.deeper (gEnv X scope s4.heap.objs.size code)) := ⟨hr.hd, by have := hr.dp; show X.A.depth + 1 + 3 * k + 5 < _; omega, by have := hr.un; show X.A.units + 1 + 1 + 3 + 16 * k + 200 < _; omega⟩
  have hss : ∀ d ∈ [s5.heap.objs.size], s5.heap.objs.size ≤ d := fun d hd => by rw [List.mem_singleton.mp hd]; exact Nat.le_refl _
  have G := bn.gen (B := X.A.in1.in1) S hss (hgt _ _ _ _ _ _ _) (ht _ _ _ _ _ _ _) (he _ _ _ _ _ _ _ hrB)
  refine call_function_tree F.kind_sum F.plain_sum F.entry_sum (F.args_sum1 _) ?_
  unfold Builtin.«sum»
  simp only [List.length_cons, List.length_nil]
  rw [if_neg (by decide)]
  refine wpAny_bind (wpAny_of_eq (show Builtin.Builtins.bindParams "sum" ["start"] 0 { } = pure [none] from rfl) ?_)
  refine wpAny_bind (wpAny_pyIter_gen (bn.gn _ bn.ga) ?_)
  refine wpAny_bind (wpAny_mkInt ?_)
  refine wpAny_bind (wpAny_pure ?_)
  simp only [List.forIn_cons, List.forIn_nil]
  refine wpAny_bind (wpAny_bind (wpAny_bind (wpAny_isInstance (T := "int") (b := false) (typeIs_int _ _ _) PySem.sub_int_str ?_)))
  simp only [Bool.false_eq_true, if_false]
  refine wpAny_pure (wpAny_bind (wpAny_bind (wpAny_isInstance (T := "int") (b := false) (typeIs_int _ _ _) PySem.sub_int_bytes ?_)))
  simp only [Bool.false_eq_true, if_false]
  refine wpAny_pure (wpAny_bind (wpAny_bind (wpAny_isInstance (T := "int") (b := false) (typeIs_int _ _ _) PySem.sub_int_bytearray ?_)))
  simp only [Bool.false_eq_true, if_false]
  refine wpAny_pure (wpAny_pure ?_)
  refine wpAny_bind (wpAny_newObj_type ?_)
  have kz : ∀ tk : Nat, Kept [s5.heap.objs.size] s5 { s5 with toks := tk, heap := s5.heap.push { cls := .type "list", data := .seq #[.int 0 s5.toks] } } := fun tk =>
    ⟨rfl, bn.bare, fun b o _ e => Heap.get?_push_of_some _ e, fun b hb => by
      rw [List.mem_singleton.mp hb]
      exact ⟨_, Heap.get?_push_size _ rfl, fun v z => by cases z⟩⟩
  obtain ⟨ga, sl⟩ := bn.asleep (B := X.A.in1.in1) S hN hr.hd (show X.A.in1.in1.frames = some X.stack from I.ok.frames) G turn w hss (kz (s5.toks + 1)) rfl
  refine wpAny_pure ⟨plainId_quiet F.plain_sum_loop _, sum_draws (val := val) (N := N) (g := g') (Fin := fun i H => Q (.int i) H) (S := s5.heap.objs.size) hr.hd (by have := hr.dp; omega) bn.T G.M (fun e => bn.gn _ (e (a, go) (by simp))) (fun j t H' s' I' q => ?_) N _ H2 0 s5.toks 0 0 (.inl rfl) (by omega) ga.inv (ga.ss _ (List.mem_singleton.mpr rfl)).1 (Heap.get?_push_size _ rfl) sl⟩
  exact ⟨.int _, H', bn.back I', ⟨t, rfl⟩, q⟩
end
end BK
set_option Elab.async false
set_option linter.all false
set_option maxRecDepth 100000
set_option maxHeartbeats 4000000
/-! KitV: the forms one uses: over n turns; over a tuple. -/
namespace BK
open PySem PySem.Spec PyProof.Rows L2 LamX
section
variable {J : It} {g : TG} {te : TE} {σ : L2.St} {vs : List Nat} {H2 : Hp}
theorem all_n {b0 : Bool} {Fin : Bool → Hp → Prop} (n : Nat) (Pv : Nat → Hp → Prop) (h0 : Pv 0 H2) (hgo : ∀ i H, i < n → Pv i H → J.go i H) (hst : ∀ H, Pv n H → J.stop n H)
    (hs : ∀ i H x H' (Po : V → Hp → Prop), i < n → Pv i H → J.yld i H x H' → (∀ b H4, (if b = b0 then Pv (i + 1) H4 else Fin b H4) → Po (.bl b) H4) → g x (wipe σ vs) H' fun σ2 H2 => wipe σ2 vs = wipe σ vs ∧ te σ2 H2 Po)
    (hd : ∀ H, Pv n H → Fin b0 H) : ∃ (N : Nat) (Wt : Nat → Nat → Nat → Hp → Prop), (∃ r, Wt 0 r 0 H2) ∧ Turns J g tYes te σ vs Wt (ydB b0 Wt Fin) (fun _ H => Fin b0 H) N := by
  refine ⟨n, fun i r j H => r = n - i ∧ j = i ∧ i ≤ n ∧ Pv i H, ⟨n, by simp, rfl, Nat.zero_le _, h0⟩, ?_⟩
  rintro i r j H ⟨rfl, rfl, hi, p⟩
  by_cases hlt : j < n
  · refine .inr ⟨hgo j H hlt p, fun x H' y => ?_⟩
    refine hs j H x H' (fun y H4 => j < n ∧ ydB b0 (fun i r j H => r = n - i ∧ j = i ∧ i ≤ n ∧ Pv i H) Fin j (n - j) j y H4) hlt p y fun b H4 q => ⟨hlt, b, rfl, ?_⟩
    by_cases hb : b = b0
    · rw [if_pos hb] at q ⊢
      exact ⟨n - (j + 1), by omega, rfl, rfl, hlt, q⟩
    · rw [if_neg hb] at q ⊢
      exact q
  · have e : j = n := by omega
    subst e
    exact .inl ⟨hst H p, hd H p⟩
theorem sum_n {Fin : Int → Hp → Prop} (n : Nat) (val : Nat → Int) (Pv : Nat → Hp → Prop) (h0 : Pv 0 H2) (hgo : ∀ i H, i < n → Pv i H → J.go i H) (hst : ∀ H, Pv n H → J.stop n H)
    (hs : ∀ i H x H' (Po : V → Hp → Prop), i < n → Pv i H → J.yld i H x H' → (∀ H4, Pv (i + 1) H4 → Po (.int (val i)) H4) → g x (wipe σ vs) H' fun σ2 H2 => wipe σ2 vs = wipe σ vs ∧ te σ2 H2 Po)
    (hd : ∀ H, Pv n H → Fin (preSum val n) H) : ∃ (N : Nat) (val : Nat → Int) (Wt : Nat → Nat → Nat → Hp → Prop), (∃ r, Wt 0 r 0 H2) ∧ Turns J g tYes te σ vs Wt (ydS val Wt) (fun j H => Fin (preSum val j) H) N := by
  refine ⟨n, val, fun i r j H => r = n - i ∧ j = i ∧ i ≤ n ∧ Pv i H, ⟨n, by simp, rfl, Nat.zero_le _, h0⟩, ?_⟩
  rintro i r j H ⟨rfl, rfl, hi, p⟩
  by_cases hlt : j < n
  · refine .inr ⟨hgo j H hlt p, fun x H' y => ?_⟩
    exact hs j H x H' (fun y H4 => j < n ∧ ydS val (fun i r j H => r = n - i ∧ j = i ∧ i ≤ n ∧ Pv i H) j (n - j) j y H4) hlt p y fun H4 q => ⟨hlt, rfl, n - (j + 1), by omega, rfl, rfl, hlt, q⟩
  · have e : j = n := by omega
    subst e
    exact .inl ⟨hst H p, hd H p⟩
end
section
variable {K : PySem.W.Frag} {a : Addr} {xs : List V} {g : TG} {te : TE} {σ : L2.St} {vs : List Nat} {H2 : Hp}
theorem all_tup {b0 : Bool} {Fin : Bool → Hp → Prop} (Pv : Nat → Hp → Prop) (h0 : Pv 0 H2) (hl : ∀ i H, i ≤ xs.length → Pv i H → SqT K H a xs)
    (hs : ∀ i x H (Po : V → Hp → Prop), xs[i]? = some x → Pv i H → (∀ b H4, (if b = b0 then Pv (i + 1) H4 else Fin b H4) → Po (.bl b) H4) → g x (wipe σ vs) H fun σ2 H2 => wipe σ2 vs = wipe σ vs ∧ te σ2 H2 Po)
    (hd : ∀ H, Pv xs.length H → Fin b0 H) : ∃ (N : Nat) (Wt : Nat → Nat → Nat → Hp → Prop), (∃ r, Wt 0 r 0 H2) ∧ Turns (Itt K a) g tYes te σ vs Wt (ydB b0 Wt Fin) (fun _ H => Fin b0 H) N := by
  refine all_n xs.length Pv h0 (fun i H hi p => ⟨xs, xs[i], hl i H (Nat.le_of_lt hi) p, by simp [hi]⟩) (fun H p => ⟨xs, hl _ H (Nat.le_refl _) p, Nat.le_refl _⟩) (fun i H x H' Po hi p y k => ?_) hd
  obtain ⟨e, y⟩ := y
  subst e
  exact hs i x _ Po (y xs (hl i _ (Nat.le_of_lt hi) p)) p k
theorem sum_tup {Fin : Int → Hp → Prop} (val : Nat → Int) (Pv : Nat → Hp → Prop) (h0 : Pv 0 H2) (hl : ∀ i H, i ≤ xs.length → Pv i H → SqT K H a xs)
    (hs : ∀ i x H (Po : V → Hp → Prop), xs[i]? = some x → Pv i H → (∀ H4, Pv (i + 1) H4 → Po (.int (val i)) H4) → g x (wipe σ vs) H fun σ2 H2 => wipe σ2 vs = wipe σ vs ∧ te σ2 H2 Po)
    (hd : ∀ H, Pv xs.length H → Fin (preSum val xs.length) H) : ∃ (N : Nat) (val : Nat → Int) (Wt : Nat → Nat → Nat → Hp → Prop), (∃ r, Wt 0 r 0 H2) ∧ Turns (Itt K a) g tYes te σ vs Wt (ydS val Wt) (fun j H => Fin (preSum val j) H) N := by
  refine sum_n xs.length val Pv h0 (fun i H hi p => ⟨xs, xs[i], hl i H (Nat.le_of_lt hi) p, by simp [hi]⟩) (fun H p => ⟨xs, hl _ H (Nat.le_refl _) p, Nat.le_refl _⟩) (fun i H x H' Po hi p y k => ?_) hd
  obtain ⟨e, y⟩ := y
  subst e
  exact hs i x _ Po (y xs (hl i _ (Nat.le_of_lt hi) p)) p k
end
end BK
set_option Elab.async false
set_option maxRecDepth 100000
open PySem L2
namespace K0
def top (i : Nat) : Stmt := PySem.Challenge.pw_besthours_k00_days_hours_and_sets.main.body.getD i (.Pass ⟨0, 0, 0, 0⟩)
abbrev sInteger : Stmt := top 1
abbrev sWithin : Stmt := top 2
abbrev sSet : Stmt := top 3
abbrev sIDays : Stmt := inClass (top 6) 0
abbrev sISet : Stmt := inClass (top 7) 0
abbrev sIPar : Stmt := inClass (top 8) 0
abbrev sIsDays : Stmt := top 15
abbrev sDayAt : Stmt := top 16
abbrev sHoursAt : Stmt := top 17
abbrev sStarts : Stmt := top 18
abbrev sNeedDays : Stmt := top 19
abbrev sNeedSet : Stmt := top 20
abbrev sHoursIn : Stmt := top 21
abbrev sDayOf : Stmt := top 22
abbrev sDayHours : Stmt := top 23
abbrev sHeld : Stmt := top 24
abbrev sMixed : Stmt := top 26
abbrev sBegin : Stmt := top 27
abbrev sDraw : Stmt := top 28
abbrev sOf : Stmt := top 29
abbrev sLike : Stmt := top 30
abbrev sHeard : Stmt := top 31
abbrev sListed : Stmt := top 32
abbrev sHoursRight : Stmt := top 33
abbrev sHeldRight : Stmt := top 34
abbrev sSetsRight : Stmt := top 35
abbrev sOddDays : Stmt := top 36
abbrev sLaw : Stmt := top 37
end K0
set_option Elab.async false
set_option linter.all false
set_option maxRecDepth 100000
set_option maxHeartbeats 4000000
/-! KitL: what a call tells, or the word and the value of its error. -/
namespace K0
open PySem PySem.Spec PyProof.Rows L2 BK LamX
/-- what the top says of the errors: D days, S set, M parameter, N none, HE all of them -/
structure ErrT (K : PySem.W.Frag) (mg : Str → Option Value) (D S M N HE : Addr) : Prop where
  gD : mg "BadDays" = some (.ref D)
  gS : mg "BadSet" = some (.ref S)
  gM : mg "BadParameter" = some (.ref M)
  gN : mg "NoRow" = some (.ref N)
  gH : mg "HourError" = some (.ref HE)
  nV : mg "ValueError" = none
  nI : mg "isinstance" = none
  eDD : PySem.W.exmOne K (.ref D) (.ref D) = some true
  eSD : PySem.W.exmOne K (.ref S) (.ref D) = some false
  eSS : PySem.W.exmOne K (.ref S) (.ref S) = some true
  eMD : PySem.W.exmOne K (.ref M) (.ref D) = some false
  eMS : PySem.W.exmOne K (.ref M) (.ref S) = some false
  eMM : PySem.W.exmOne K (.ref M) (.ref M) = some true
  eND : PySem.W.exmOne K (.ref N) (.ref D) = some false
  eNS : PySem.W.exmOne K (.ref N) (.ref S) = some false
  eNM : PySem.W.exmOne K (.ref N) (.ref M) = some false
  eNN : PySem.W.exmOne K (.ref N) (.ref N) = some true
  iD : IsC K D
  iS : IsC K S
  iM : IsC K M
  iN : IsC K N
  xD : XfC K D
  xS : XfC K S
  xM : XfC K M
  vD : PySem.W.findIn K (.ref D) "value" = some none
  vS : PySem.W.findIn K (.ref S) "value" = some none
  vM : PySem.W.findIn K (.ref M) "value" = some none
  kD : PySem.W.kitOne K (.ref D) (.ref HE) = some true
  kS : PySem.W.kitOne K (.ref S) (.ref HE) = some true
  kM : PySem.W.kitOne K (.ref M) (.ref HE) = some true
  kN : PySem.W.kitOne K (.ref N) (.ref HE) = some true
  kV : PySem.W.kitOne K (.ref N) (.type "ValueError") = some true
/-- how an error is heard: its class, its dict, what is told -/
inductive Told (D S M N : Addr) (cls : Value) (d : Option Addr) (H : Hp) : List V → Prop
  | days {dd : Addr} {y : V} (hc : cls = .ref D) (hd : d = some dd) (h : H dd = some (.xd [("value", y)])) : Told D S M N cls d H [.str "days", y, .bl true]
  | set {dd : Addr} {y : V} (hc : cls = .ref S) (hd : d = some dd) (h : H dd = some (.xd [("value", y)])) : Told D S M N cls d H [.str "set", y, .bl true]
  | par {dd : Addr} {y : V} (hc : cls = .ref M) (hd : d = some dd) (h : H dd = some (.xd [("value", y)])) : Told D S M N cls d H [.str "parameter", y, .bl true]
  | row (hc : cls = .ref N) (hd : d = none) : Told D S M N cls d H [.str "none", .bl true, .bl true]
/-- heard: tl is the lambda's reading -/
def THeard (D S M N : Addr) : (XK → Hp → VK → Prop) → Hp → VK → Prop := fun tl H Q =>
  tl (fun cls d H' => ∃ ts, Told D S M N cls d H' ts ∧ ∀ p, H' p = none → Q (.ref p) (upd H' p (.tup ts))) H
    (fun v H' => ∀ p, H' p = none → Q (.ref p) (upd H' p (.tup [.str "is", v])))
theorem scHeard : FnScope ["call", "told", "error_so"] ["call"] (defScope sHeard) := ⟨rfl, rfl, rfl, by decide +kernel, rfl, by decide +kernel, by decide +kernel⟩
theorem sz3 : 3 ≤ sizeLine := by decide
theorem sz2 : 2 ≤ sizeLine := by decide
theorem lk_val (y : V) : ([(("value" : Str), y)] : List (Str × V)).lookup ("value" : Str) = some y := by simp [List.lookup]
section
variable {X : Cx} {D S M N HE : Addr}
theorem pe_mono {X : Cx} {e : Expr} {t : TE} (h : PE X e t) : PE X e (fun σ H Q => ∃ Qv : VK, (∀ v H1, Qv v H1 → Q v H1) ∧ t σ H Qv) :=
  ⟨fun pins s σ H Q I ⟨Qv, i, q⟩ => thn (h.run pins s σ H Qv I q) fun u s' ⟨v, H1, I1, r, q1⟩ => ⟨v, H1, I1, r, i v H1 q1⟩⟩
/-- a suite: told = (word, error_so.value, isinstance(error_so, HourError)) -/
def tSui (K : PySem.W.Frag) (C a : Addr) (cls : Value) (d : Option Addr) (w : Str) (HE : Addr) : TS :=
  tAsg (tTup (tCons (tC (.str w)) (tCons (tXf a cls d C "value" (tVar 2)) (tCons (tCB (fun xs H Q => cls = .ref C ∧ rIsD K C a d xs H Q) (tCons (tVar 2) (tCons (tC (.ref HE)) tNil))) tNil)))) (gName 1)
theorem call_isD' {X : Cx} {a D : Addr} {cls : Value} {d : Option Addr} {oe : Obj} {pn : List (Addr × Obj)} (C : IsC X.K D) (hz : Zc cls d oe) (hf : ∃ vs, oe.data = .fields vs) : CallR (X.suite a ((a, oe) :: pn)) (.builtin "isinstance") (fun xs H Q => cls = .ref D ∧ rIsD X.K D a d xs H Q) := by
  intro pins s σ H xs us Q I r h
  obtain ⟨e, h⟩ := h
  subst e
  exact call_isD C hz hf pins s σ H xs us Q I r h
theorem heard_gives (T : ErrT X.K X.mg D S M N HE) {g : Addr} {cdg : Value} {q : Str} :
    GivesTo X ["call", "told", "error_so"] "_law_heard" (defScope sHeard) g cdg (defBody sHeard) "call" q (THeard D S M N) := by
  intro f c' s H Q tl act hc h
  refine ⟨_, pss_cons (ps_set (i := 1) scHeard.nd rfl (Or.inl rfl) pe_non)
    (pss_cons (ps_try_manyA (X := (cxOf C8.CX0 X.prog X.w X.K X.mg X.base ["call", "told", "error_so"] "_law_heard" (defScope sHeard) g cdg X.A X.stack s H C8.E0).nox) (i := 2) (n := "error_so")
      (tb := fun W D σ H => ∃ Ech : XK, (∀ cls d σ' H', Ech cls d H' → W cls d σ' H') ∧ σ[0]? = some (some (.ref f)) ∧ H c' = some (CodeO c' q) ∧ ∃ Qv : VK, (∀ v H1, Qv v H1 → [V.str "is", v].length ≤ sizeLine ∧ ∀ p, H1 p = none → D.nx (σ.set 1 (some (.ref p))) (upd H1 p (.tup [.str "is", v]))) ∧ tl Ech H Qv)
      rfl rfl scHeard.nd rfl rfl LamX.takes0 (fun W pn xe tk _ => ?_)
      (HdsA.cons (ts := fun a cls d => tSui X.K D a cls d "days" HE) ⟨rfl, by decide, .inl T.gD⟩ (fun a oe cls d pn hz hf => pss_one (ps_set (i := 1) scHeard.nd rfl (Or.inl rfl) (pe_tup (pa_cons pe_str (pa_cons (pe_xf T.xD T.vD hz hf (pv 2)) (pa_cons (pe_callB (call_isD' T.iD hz hf) (by rfl) T.nI (by decide +kernel) (pa_cons (pv 2) (pa_cons (pe_glob rfl T.gH rfl) pa_nil))) pa_nil))))))
      (HdsA.cons (ts := fun a cls d => tSui X.K S a cls d "set" HE) ⟨rfl, by decide, .inl T.gS⟩ (fun a oe cls d pn hz hf => pss_one (ps_set (i := 1) scHeard.nd rfl (Or.inl rfl) (pe_tup (pa_cons pe_str (pa_cons (pe_xf T.xS T.vS hz hf (pv 2)) (pa_cons (pe_callB (call_isD' T.iS hz hf) (by rfl) T.nI (by decide +kernel) (pa_cons (pv 2) (pa_cons (pe_glob rfl T.gH rfl) pa_nil))) pa_nil))))))
      (HdsA.cons (ts := fun a cls d => tSui X.K M a cls d "parameter" HE) ⟨rfl, by decide, .inl T.gM⟩ (fun a oe cls d pn hz hf => pss_one (ps_set (i := 1) scHeard.nd rfl (Or.inl rfl) (pe_tup (pa_cons pe_str (pa_cons (pe_xf T.xM T.vM hz hf (pv 2)) (pa_cons (pe_callB (call_isD' T.iM hz hf) (by rfl) T.nI (by decide +kernel) (pa_cons (pv 2) (pa_cons (pe_glob rfl T.gH rfl) pa_nil))) pa_nil))))))
      (HdsA.cons (ts := fun a cls d => tAsg (tTup (tCons (tC (.str "none")) (tCons (tCB (fun xs H Q => cls = .ref N ∧ rIsD X.K N a d xs H Q) (tCons (tVar 2) (tCons (tC (.ref HE)) tNil))) (tCons (tCB (fun xs H Q => cls = .ref N ∧ rIsD X.K N a d xs H Q) (tCons (tVar 2) (tCons (tC (.ty "ValueError")) tNil))) tNil)))) (gName 1))
        ⟨rfl, by decide, .inl T.gN⟩ (fun a oe cls d pn hz hf => pss_one (ps_set (i := 1) scHeard.nd rfl (Or.inl rfl) (pe_tup (pa_cons pe_str (pa_cons (pe_callB (call_isD' T.iN hz hf) (by rfl) T.nI (by decide +kernel) (pa_cons (pv 2) (pa_cons (pe_glob rfl T.gH rfl) pa_nil))) (pa_cons (pe_callB (call_isD' T.iN hz hf) (by rfl) T.nI (by decide +kernel) (pa_cons (pv 2) (pa_cons (pe_bltn rfl T.nV PyProof.Rows.Boot.«ValueError» rfl) pa_nil))) pa_nil)))))) HdsA.nil)))))
    (pss_one (ps_ret (pv 1)))), ?_⟩
  · refine ⟨fun pins s' σ H' D I h' => ?_⟩
    obtain ⟨Ech, hW, h1, h2, Qv, h4, h3⟩ := h'
    have hp := act W pn xe Ech ⟨110, 22, 110, 26⟩ ⟨110, 22, 110, 28⟩ tk hW
    have hp' := pe_mono hp
    exact PSs.run (t := tAsg (tTup (tCons (tC (.str "is")) (tCons (fun σZ HZ Q => ∃ Qv : VK, (∀ v H1, Qv v H1 → Q v H1) ∧ σZ[0]? = some (some (.ref f)) ∧ HZ c' = some (CodeO c' q) ∧ tl Ech HZ Qv) tNil))) (gName 1)) (pss_one (ps_set (i := 1) scHeard.nd rfl (Or.inl rfl) (pe_tup (pa_cons pe_str (pa_cons hp' pa_nil))))) pins s' σ H' D I ⟨Qv, h4, h1, h2, h3⟩
  · refine ⟨fun cls d H' => ∃ ts, Told D S M N cls d H' ts ∧ ∀ p, H' p = none → Q (.ref p) (upd H' p (.tup ts)), fun cls d σ' H' hE => ?_, rfl, hc, (fun v H' => ∀ p, H' p = none → Q (.ref p) (upd H' p (.tup [.str "is", v]))), fun v H1 hv => ⟨sz2, fun p hp => ⟨_, rfl, hv p hp⟩⟩, h⟩
    · obtain ⟨ts, ht, k⟩ := hE
      have out : ∀ {σ' : L2.St} {v w : V}, σ'.length = 3 → (((σ'.set 2 (some w)).set 1 (some v)).set 2 none)[1]? = some (some v) := fun {σ' v w} hl => by
        rw [List.getElem?_set_ne (by decide), List.getElem?_set_self (by simp [hl])]
      have sl2 : ∀ {σ' : L2.St} {w : V}, σ'.length = 3 → (σ'.set 2 (some w))[2]? = some (some w) := fun {σ' w} hl => List.getElem?_set_self (by simp [hl])
      cases ht with
      | days hc hd hh =>
        subst hc hd
        refine ⟨true, T.eDD, fun _ hl a na => ?_, (fun z => nomatch z)⟩
        exact ⟨_, sl2 hl, rfl, rfl, _, _, _, rfl, hh, lk_val _, _, sl2 hl, rfl, _, _, true, rfl, fun u r => r, T.kD, fun dd e => by cases e; exact ⟨_, hh⟩, sz3, fun p hp => ⟨_, out hl, k p hp⟩⟩
      | set hc hd hh =>
        subst hc hd
        refine ⟨false, T.eSD, (fun z => nomatch z), fun _ => ⟨true, T.eSS, fun _ hl a na => ?_, (fun z => nomatch z)⟩⟩
        exact ⟨_, sl2 hl, rfl, rfl, _, _, _, rfl, hh, lk_val _, _, sl2 hl, rfl, _, _, true, rfl, fun u r => r, T.kS, fun dd e => by cases e; exact ⟨_, hh⟩, sz3, fun p hp => ⟨_, out hl, k p hp⟩⟩
      | par hc hd hh =>
        subst hc hd
        refine ⟨false, T.eMD, (fun z => nomatch z), fun _ => ⟨false, T.eMS, (fun z => nomatch z), fun _ => ⟨true, T.eMM, fun _ hl a na => ?_, (fun z => nomatch z)⟩⟩⟩
        exact ⟨_, sl2 hl, rfl, rfl, _, _, _, rfl, hh, lk_val _, _, sl2 hl, rfl, _, _, true, rfl, fun u r => r, T.kM, fun dd e => by cases e; exact ⟨_, hh⟩, sz3, fun p hp => ⟨_, out hl, k p hp⟩⟩
      | row hc hd =>
        subst hc hd
        refine ⟨false, T.eND, (fun z => nomatch z), fun _ => ⟨false, T.eNS, (fun z => nomatch z), fun _ => ⟨false, T.eNM, (fun z => nomatch z), fun _ => ⟨true, T.eNN, fun _ hl a na => ?_, (fun z => nomatch z)⟩⟩⟩⟩
        exact ⟨_, sl2 hl, rfl, _, _, true, rfl, fun u r => r, T.kN, (fun dd e => by cases e), _, sl2 hl, rfl, _, _, true, rfl, fun u r => r, T.kV, (fun dd e => by cases e), sz3, fun p hp => ⟨_, out hl, k p hp⟩⟩
end
end K0
set_option Elab.async false
set_option linter.all false
set_option maxRecDepth 100000
set_option maxHeartbeats 4000000
/-! P1: the program: is_within, is_set, days and hours without errors. -/
namespace K0
open PySem PySem.Spec PyProof.Rows L2 BK
structure Bl (mg : Str → Option Value) : Prop where
  isi : mg "isinstance" = none
  int : mg "int" = none
  bool : mg "bool" = none
  tup : mg "tuple" = none
  len : mg "len" = none
  all : mg "all" = none
  sum : mg "sum" = none
  rng : mg "range" = none
  lst : mg "list" = none
  rep : mg "repr" = none
  enu : mg "enumerate" = none
  srt : mg "sorted" = none
  set : mg "set" = none
/-- the program's is_integer -/
def integer : PyData → Bool
  | .int _ => true
  | _ => false
def spInteger (K : PySem.W.Frag) : Sp := fun vs H Q _ => ∃ (x : V) (d : PyData), vs = [x] ∧ Rep K H x d ∧ Q (.bl (integer d)) H
/-- the program's is_within -/
def within : PyData → Int → Int → Bool
  | .int i, lo, hi => decide (lo ≤ i) && decide (i ≤ hi)
  | _, _, _ => false
def spWithin (K : PySem.W.Frag) : Sp := fun vs H Q _ => ∃ (x : V) (d : PyData) (lo hi : Int), vs = [x, .int lo, .int hi] ∧ Rep K H x d ∧ Q (.bl (within d lo hi)) H
/-- the program's is_set: from least on -/
def isSetL (most : Int) : Int → List PyData → Bool
  | _, [] => true
  | least, d :: ds => within d least most && match d with
    | .int i => isSetL most (i + 1) ds
    | _ => false
def isSet (most : Int) : PyData → Bool
  | .tuple ds => isSetL most 0 ds
  | _ => false
def spSet (K : PySem.W.Frag) : Sp := fun vs H Q _ => ∃ (x : V) (d : PyData) (most : Int), vs = [x, .int most] ∧ Rep K H x d ∧ Q (.bl (isSet most d)) H
theorem sIns : bootBuiltins "isinstance" = some (.builtin "isinstance") := by decide +kernel
theorem sInt : bootBuiltins "int" = some (.type "int") := by decide +kernel
theorem sBool : bootBuiltins "bool" = some (.type "bool") := by decide +kernel
theorem sTup : bootBuiltins "tuple" = some (.type "tuple") := by decide +kernel
section
variable {P : Program} {w : World} {K : PySem.W.Frag} {mg : Str → Option Value} {base : Heap}
theorem scInteger : FnScope ["value"] ["value"] (defScope sInteger) := ⟨rfl, rfl, rfl, by decide +kernel, rfl, by decide +kernel, by decide +kernel⟩
theorem def_integer (B : Bl mg) (F : At K mg "is_integer" sInteger ["value"]) : Def P w K mg base CX0 1 "is_integer" ["value"] (spInteger K) := by
  refine F.ok scInteger (fun vs H Q E h => ?_) (fun f cdv A outer s H vs Q E hr h => ?_)
  · obtain ⟨x, d, rfl, _⟩ := h
    rfl
  · obtain ⟨x, d, rfl, hx, q⟩ := h
    refine ⟨_, pss_one (ps_ret (pe_and (pe_callB call_isi (by rfl) B.isi sIns (pa_cons (pv 0) (pa_cons (pe_ty (by rfl) B.int sInt) pa_nil)))
      (pe_one (pe_not (pe_callB call_isi (by rfl) B.isi sIns (pa_cons (pv 0) (pa_cons (pe_ty (by rfl) B.bool sBool) pa_nil))))))), ?_⟩
    refine ⟨_, rfl, _, _, _, _, _, rfl, .ty "int", tyx_of hx, kit_ty (kit_int _), _, rfl, ?_⟩
    cases d with
    | int i => exact ⟨_, rfl, _, _, _, _, _, rfl, .ty "bool", tyx_of hx, kit_ty (kit_bool _), _, rfl, q⟩
    | bool b => exact ⟨_, rfl, _, _, _, _, _, rfl, .ty "bool", tyx_of hx, kit_ty (kit_bool _), _, rfl, q⟩
    | none => exact q
    | str _ => exact q
    | list _ => exact q
    | tuple _ => exact q
    | dict _ => exact q
theorem scWithin : FnScope ["value", "low", "high"] ["value", "low", "high"] (defScope sWithin) := ⟨rfl, rfl, rfl, by decide +kernel, rfl, by decide +kernel, by decide +kernel⟩
theorem def_within (D1 : Def P w K mg base CX0 1 "is_integer" ["value"] (spInteger K)) (F : At K mg "is_within" sWithin ["value", "low", "high"]) : Def P w K mg base CX0 2 "is_within" ["value", "low", "high"] (spWithin K) := by
  refine F.ok scWithin (fun vs H Q E h => ?_) (fun f cdv A outer s H vs Q E hr h => ?_)
  · obtain ⟨x, d, lo, hi, rfl, _⟩ := h
    rfl
  · obtain ⟨x, d, lo, hi, rfl, hx, q⟩ := h
    refine ⟨_, pss_one (ps_ret (pe_and (pe_def D1 hr (by rfl) pass0 (pa_cons (pv 0) pa_nil)) (pe_one (pe_chain op_le op_le (pv 1) (pv 0) (pv 2))))), ?_⟩
    refine ⟨_, rfl, x, d, rfl, hx, _, rfl, ?_⟩
    cases d with
    | int i =>
      cases hx
      refine ⟨_, rfl, _, rfl, _, _, rfl, rfl, _, rfl, ?_⟩
      by_cases h1 : lo ≤ i
      · have e : within (.int i) lo hi = decide (i ≤ hi) := by simp [within, h1]
        rw [if_pos (decide_eq_true h1)]
        rw [e] at q
        exact ⟨_, rfl, _, _, rfl, rfl, q⟩
      · have e : within (.int i) lo hi = false := by simp [within, h1]
        rw [if_neg (by rw [decide_eq_false h1]; decide)]
        rw [e] at q
        exact q
    | _ => exact q
theorem scSet : FnScope ["value", "most", "least", "item"] ["value", "most"] (defScope sSet) := ⟨rfl, rfl, rfl, by decide +kernel, rfl, by decide +kernel, by decide +kernel⟩
theorem rep_at {H : Hp} : ∀ {xs : List V} {ds : List PyData} {i : Nat} {x : V}, RepAll K H xs ds → xs[i]? = some x → ∃ d, ds[i]? = some d ∧ Rep K H x d
  | _, _, _, _, .nil, e => by simp at e
  | _, _, 0, _, .cons h _, e => by
    simp at e
    subst e
    exact ⟨_, rfl, h⟩
  | _, _, i + 1, _, .cons _ r, e => by
    obtain ⟨d, a, b⟩ := rep_at (i := i) r (by simpa using e)
    exact ⟨d, by simpa using a, b⟩
theorem def_set (T : Bl mg) (W : Def P w K mg base CX0 2 "is_within" ["value", "low", "high"] (spWithin K)) (F : At K mg "is_set" sSet ["value", "most"]) : Def P w K mg base CX0 3 "is_set" ["value", "most"] (spSet K) := by
  refine F.ok scSet (fun vs H Q E h => ?_) (fun f cdv A outer s H vs Q E hr h => ?_)
  · obtain ⟨x, d, most, rfl, _⟩ := h
    rfl
  · obtain ⟨x, d, most, rfl, hx, q⟩ := h
    refine ⟨_, pss_cons (ps_if (pt_not (pt_val (pe_callB call_isi (by rfl) T.isi sIns (pa_cons (pv 0) (pa_cons (pe_ty (by rfl) T.tup sTup) pa_nil))))) (pss_one (ps_ret pe_bl)) pss_nil)
      (pss_cons (ps_set (i := 2) scSet.nd rfl (Or.inl rfl) pe_int)
      (pss_cons (ps_for PassesOwn.never rfl (pi_tup (pv 0)) (pg_name (i := 3) scSet.nd rfl (Or.inl rfl))
        (pss_cons (ps_if (pt_not (pt_val (pe_def W hr (by rfl) pass0 (pa_cons (pv 3) (pa_cons (pv 2) (pa_cons (pv 1) pa_nil)))))) (pss_one (ps_ret pe_bl)) pss_nil)
          (pss_one (ps_set (i := 2) scSet.nd rfl (Or.inl rfl) (pe_op op_add (pv 3) pe_int)))))
      (pss_one (ps_ret pe_bl)))), ?_⟩
    refine ⟨_, rfl, _, _, _, _, _, rfl, .ty "tuple", tyx_of hx, kit_ty (kit_tuple _), _, rfl, ?_⟩
    have no : isT d = false → Q (.bl false) H := fun e => by
      cases d with
      | tuple ds => cases e
      | _ => exact q
    cases hT : isT d with
    | false => exact no hT
    | true =>
      cases hx with
      | tup hs ra =>
        rename_i a xs ds
        refine ⟨_, rfl, a, rfl, ⟨_, hs⟩, for_tup (K := K) (a := a) (xs := xs) (fun i σ H' => ∃ (least : Int) (it : Option V), H' = H ∧ σ = [some (.ref a), some (.int most), some (.int least), it] ∧ isSet most (.tuple ds) = isSetL most least (ds.drop i)) ?_ ?_ ?_ ?_⟩
        · exact ⟨0, none, rfl, rfl, rfl⟩
        · rintro i σ H' _ ⟨_, _, rfl, _⟩
          exact hs
        · rintro i x σ H' hi ⟨least, it, rfl, rfl, e⟩
          obtain ⟨d, hd, hx⟩ := rep_at ra hi
          have e2 : ds.drop i = d :: ds.drop (i + 1) := by
            have := List.drop_eq_getElem?_toList_append (l := ds) (i := i)
            rw [hd] at this
            simpa using this
          rw [e2] at e
          refine ⟨_, rfl, _, rfl, _, rfl, x, d, least, most, rfl, hx, _, rfl, ?_⟩
          cases hw : within d least most with
          | false =>
            have e3 : isSet most (.tuple ds) = false := by rw [e]; simp [isSetL, hw]
            rw [e3] at q
            exact q
          | true =>
            cases d with
            | int j =>
              cases hx
              refine ⟨_, rfl, _, _, rfl, rfl, j + 1, _, rfl, rfl, ?_⟩
              rw [e]
              simp [isSetL, hw]
            | _ => cases hw
        · rintro σ H' ⟨least, it, rfl, rfl, e⟩
          have hl := ra.length
          rw [List.drop_of_length_le (by omega)] at e
          have e3 : isSet most (.tuple ds) = true := e
          rw [e3] at q
          exact q
      | _ => cases hT
end
end K0
set_option Elab.async false
set_option linter.all false
set_option maxRecDepth 100000
set_option maxHeartbeats 4000000
/-! P2: the program: days and hours. -/
namespace K0
open PySem PySem.Spec PyProof.Rows L2 BK LamX
/-! ### the mathematics -/
structure OkN (ns : List Int) : Prop where
  lo : 1 ≤ ns.length
  hi : ns.length ≤ 7
  all : ∀ n ∈ ns, 1 ≤ n ∧ n ≤ 12
def isDays : PyData → Bool
  | .tuple ds => decide (1 ≤ ds.length) && decide (ds.length ≤ 7) && ds.all (fun d => within d 1 12)
  | _ => false
theorem within_int {d : PyData} {lo hi : Int} (h : within d lo hi = true) : ∃ i, d = .int i ∧ lo ≤ i ∧ i ≤ hi := by
  cases d with
  | int i =>
    simp only [within, Bool.and_eq_true, decide_eq_true_eq] at h
    exact ⟨i, rfl, h⟩
  | _ => cases h
theorem all_ints : ∀ {ds : List PyData}, ds.all (fun d => within d 1 12) = true → ∃ ns : List Int, ds = ns.map .int ∧ ∀ n ∈ ns, 1 ≤ n ∧ n ≤ 12
  | [], _ => ⟨[], rfl, fun _ h => by cases h⟩
  | d :: ds, h => by
    simp only [List.all_cons, Bool.and_eq_true] at h
    obtain ⟨i, rfl, h1⟩ := within_int h.1
    obtain ⟨ns, rfl, h2⟩ := all_ints h.2
    refine ⟨i :: ns, rfl, fun n hn => ?_⟩
    rcases List.mem_cons.mp hn with e | e
    · rw [e]; exact h1
    · exact h2 n e
theorem days_ints {d : PyData} (h : isDays d = true) : ∃ ns : List Int, d = .tuple (ns.map .int) ∧ OkN ns := by
  cases d with
  | tuple ds =>
    simp only [isDays, Bool.and_eq_true, decide_eq_true_eq] at h
    obtain ⟨⟨h1, h2⟩, h3⟩ := h
    obtain ⟨ns, rfl, h4⟩ := all_ints h3
    rw [List.length_map] at h1 h2
    exact ⟨ns, rfl, h1, h2, h4⟩
  | _ => cases h
theorem isDays_of {ns : List Int} (h : OkN ns) : isDays (.tuple (ns.map .int)) = true := by
  simp only [isDays, Bool.and_eq_true, decide_eq_true_eq, List.length_map, List.all_map, List.all_eq_true]
  refine ⟨⟨h.lo, h.hi⟩, fun n hn => ?_⟩
  have := h.all n hn
  show (decide (1 ≤ n) && decide (n ≤ 12)) = true
  simp [this.1, this.2]
theorem repAll_ints {K : PySem.W.Frag} {H : Hp} : ∀ {ns : List Int} {xs : List V}, RepAll K H xs (ns.map .int) → xs = ns.map V.int
  | [], _, .nil => rfl
  | n :: ns, _, .cons h r => by
    cases h
    rw [repAll_ints r]
    rfl
theorem rep_ints {K : PySem.W.Frag} {H : Hp} {v : V} {ns : List Int} (h : Rep K H v (.tuple (ns.map .int))) : ∃ a, v = .ref a ∧ SqT K H a (ns.map V.int) := by
  cases h with
  | tup hs r => exact ⟨_, rfl, by rw [← repAll_ints r]; exact hs⟩
def dayAt : List Int → Int → Nat
  | [], _ => 0
  | n :: r, h => if h < n then 0 else dayAt r (h - n) + 1
theorem sum_nonneg : ∀ {ns : List Int}, (∀ n ∈ ns, 1 ≤ n ∧ n ≤ 12) → (ns.length : Int) ≤ ns.sum ∧ ns.sum ≤ 12 * (ns.length : Int)
  | [], _ => by simp
  | n :: ns, h => by
    have := sum_nonneg (ns := ns) fun x hx => h x (List.mem_cons_of_mem _ hx)
    have h0 := h n (List.mem_cons_self ..)
    simp only [List.sum_cons, List.length_cons, Int.natCast_add]
    omega
theorem OkN.sum {ns : List Int} (h : OkN ns) : 1 ≤ ns.sum ∧ ns.sum ≤ 84 := by
  have := sum_nonneg h.all
  have h1 := h.lo
  have h2 := h.hi
  omega
/-- the hours ahead of the j-th day -/
def ahead (ns : List Int) (j : Nat) : Int := (ns.take j).sum
theorem ahead_succ {ns : List Int} {j : Nat} {n : Int} (h : ns[j]? = some n) : ahead ns (j + 1) = ahead ns j + n := sum_take h
theorem dayAt_spec : ∀ {ns : List Int} {h : Int}, (∀ n ∈ ns, 1 ≤ n ∧ n ≤ 12) → 0 ≤ h → h < ns.sum → dayAt ns h < ns.length ∧ ahead ns (dayAt ns h) ≤ h ∧ h < ahead ns (dayAt ns h + 1)
  | [], h, _, h0, h1 => by simp at h1; omega
  | n :: ns, h, ha, h0, h1 => by
    have hn := ha n (List.mem_cons_self ..)
    have ha' := fun x hx => ha x (List.mem_cons_of_mem n hx)
    by_cases hlt : h < n
    · have e : dayAt (n :: ns) h = 0 := by simp [dayAt, hlt]
      rw [e]
      refine ⟨by simp, by simp [ahead]; exact h0, by simp [ahead]; exact hlt⟩
    · have e : dayAt (n :: ns) h = dayAt ns (h - n) + 1 := by simp [dayAt, hlt]
      have ih := dayAt_spec (ns := ns) (h := h - n) ha' (by omega) (by simp at h1; omega)
      rw [e]
      simp only [ahead, List.take_succ_cons, List.sum_cons, List.length_cons] at ih ⊢
      omega
theorem ahead_mono {ns : List Int} (ha : ∀ n ∈ ns, 1 ≤ n ∧ n ≤ 12) : ∀ {i j : Nat}, i ≤ j → j ≤ ns.length → ahead ns i + ((j - i : Nat) : Int) ≤ ahead ns j := by
  intro i j hij hj
  induction j with
  | zero =>
    have : i = 0 := by omega
    subst this
    simp
  | succ j ih =>
    by_cases e : i = j + 1
    · subst e; simp
    · have h1 := ih (by omega) (by omega)
      have hlt : j < ns.length := by omega
      have h2 := ahead_succ (ns := ns) (j := j) (n := ns[j]) (by simp [hlt])
      have h3 := ha ns[j] (List.getElem_mem hlt)
      omega
theorem ahead_all (ns : List Int) : ahead ns ns.length = ns.sum := by simp [ahead]
theorem cut_take {ns : List Int} {k : Nat} : cutV (ns.map V.int) none (some (k : Int)) = (ns.take k).map V.int := by
  unfold cutV
  rw [HT.sIx_none, HT.sIx_nat, List.drop_zero, Nat.sub_zero, List.length_map, List.map_take]
  by_cases h : k ≤ ns.length
  · rw [Nat.min_eq_left h]
  · rw [Nat.min_eq_right (by omega), List.take_of_length_le (by simp), List.take_of_length_le (by simp; omega)]
theorem sum_bound {ns : List Int} (h : OkN ns) (j : Nat) : 0 ≤ ahead ns j ∧ ahead ns j ≤ 84 := by
  have hs := h.sum
  by_cases hj : j ≤ ns.length
  · have a := ahead_mono h.all (Nat.zero_le j) hj
    have b := ahead_mono h.all hj (Nat.le_refl _)
    rw [ahead_all] at b
    simp only [ahead, List.take_zero, List.sum_nil] at a
    have : ahead ns j = (ns.take j).sum := rfl
    omega
  · have e : ahead ns j = ns.sum := by unfold ahead; rw [List.take_of_length_le (by omega)]
    omega
/-! ### day_at, hours_at -/
def spDayAt (K : PySem.W.Frag) : Sp := fun vs H Q _ => ∃ (a : Addr) (ns : List Int) (h : Int), vs = [.ref a, .int h] ∧ SqT K H a (ns.map V.int) ∧ OkN ns ∧ 0 ≤ h ∧ h < ns.sum ∧ ∀ H', Same H H' → Q (.int (dayAt ns h : Nat)) H'
def spHoursAt (K : PySem.W.Frag) : Sp := fun vs H Q _ => ∃ (a : Addr) (ns : List Int) (j : Nat), vs = [.ref a, .int (j : Nat)] ∧ SqT K H a (ns.map V.int) ∧ OkN ns ∧ j < ns.length ∧ ∀ H' p, Same H H' → H p = none → H' p = some (.tup (rgV (ahead ns j) (ahead ns (j + 1)))) → Q (.ref p) H'
theorem same_new {H H' : Hp} {p : Addr} {o : HO} (e : Same H H') (h : H' p = none) : Same H (upd H' p o) := fun b u x => by
  rw [upd_ne (ne_of_none (e b u x) h)]
  exact e b u x
section
variable {P : Program} {w : World} {K : PySem.W.Frag} {mg : Str → Option Value} {base : Heap}
theorem whole_sum {ns : List Int} {k : Nat} (hw : HT.sIx (ns.map V.int).length 0 none = 0 ∧ HT.sIx (ns.map V.int).length (ns.map V.int).length (some (k : Int)) = (ns.map V.int).length) : ns.sum = ahead ns k := by
  have h2 := hw.2
  rw [HT.sIx_nat, List.length_map] at h2
  unfold ahead
  rw [List.take_of_length_le (by omega)]
theorem scDayAt : FnScope ["days", "hour", "day"] ["days", "hour"] (defScope sDayAt) := ⟨rfl, rfl, rfl, by decide +kernel, rfl, by decide +kernel, by decide +kernel⟩
theorem sSum : bootBuiltins "sum" = some (.builtin "sum") := by decide +kernel
theorem def_dayAt (T : Bl mg) (F : At K mg "day_at" sDayAt ["days", "hour"]) : Def P w K mg base CX0 1 "day_at" ["days", "hour"] (spDayAt K) := by
  refine F.ok scDayAt (fun vs H Q E h => ?_) (fun f cdv A outer s H vs Q E hr h => ?_)
  · obtain ⟨a, ns, h, rfl, _⟩ := h
    rfl
  · obtain ⟨a, ns, h, rfl, hs, ok, h0, h1, q⟩ := h
    refine ⟨_, pss_cons (ps_set (i := 2) scDayAt.nd rfl (Or.inl rfl) pe_int)
      (pss_cons (ps_while PassesOwn.never (pt_cmpR op_ge (pv 1) (pe_callB (cr_sumT rfl) (by rfl) T.sum sSum (pa_cons (pe_slice sl_tupA (pv 0) po_none (po_some (pe_op op_add (pv 2) pe_int))) pa_nil)) (nomark _))
        (pss_one (ps_aug (i := 2) scDayAt.nd rfl (Or.inl rfl) pe_int ip_add)))
      (pss_one (ps_ret (pv 2)))), ?_⟩
    obtain ⟨e1, e2, e3⟩ := dayAt_spec ok.all h0 h1
    refine ⟨fun m σ H' => ∃ j : Nat, m = ns.length - j ∧ j ≤ dayAt ns h ∧ σ = [some (.ref a), some (.int h), some (.int (j : Nat))] ∧ Same H H', ⟨_, 0, rfl, Nat.zero_le _, rfl, Same.refl H⟩, ?_⟩
    rintro m σ H' ⟨j, rfl, hj, rfl, sm⟩
    have cj : (((j : Nat) : Int) + 1) = ((j + 1 : Nat) : Int) := by omega
    refine ⟨_, rfl, _, rfl, _, rfl, _, _, rfl, rfl, _, rfl, a, _, rfl, sqt_same sm hs, fun hw => ?_, fun hw p hp => ?_⟩
    · refine ⟨a, ns, rfl, sqt_same sm hs, _, _, rfl, rfl, _, rfl, ?_⟩
      have e0 : ns.sum = ahead ns (j + 1) := whole_sum (by rw [← cj]; exact hw)
      show if decide (ns.sum ≤ h) = true then _ else _
      rw [e0]
      by_cases hh : ahead ns (j + 1) ≤ h
      · rw [if_pos (decide_eq_true hh)]
        have lt : j < dayAt ns h := by
          refine Nat.lt_of_le_of_ne hj fun e => ?_
          rw [← e] at e3
          omega
        refine ⟨fun σ' H2 => σ' = [some (.ref a), some (.int h), some (.int ((j + 1 : Nat) : Int))] ∧ Same H H2, fun σ' H2 ⟨e, s2⟩ => ⟨_, by omega, j + 1, rfl, lt, e, s2⟩, _, rfl, _, _, rfl, rfl, rfl, sm⟩
      · rw [if_neg (by rw [decide_eq_false hh]; decide)]
        have e : dayAt ns h = j := by
          refine Nat.le_antisymm (Nat.le_of_not_lt fun lt => hh ?_) hj
          have m := ahead_mono ok.all (i := j + 1) (j := dayAt ns h) lt (Nat.le_of_lt e1)
          omega
        subst e
        exact ⟨_, rfl, q _ sm⟩
    · refine ⟨p, ns.take (j + 1), rfl, SqT.of (by rw [upd_same]; show some (HO.tup (cutV _ none (some (((j : Nat) : Int) + 1)))) = _; rw [cj, cut_take]), _, _, rfl, rfl, _, rfl, ?_⟩
      show if decide (ahead ns (j + 1) ≤ h) = true then _ else _
      by_cases hh : ahead ns (j + 1) ≤ h
      · rw [if_pos (decide_eq_true hh)]
        have lt : j < dayAt ns h := by
          refine Nat.lt_of_le_of_ne hj fun e => ?_
          rw [← e] at e3
          omega
        refine ⟨fun σ' H2 => σ' = [some (.ref a), some (.int h), some (.int ((j + 1 : Nat) : Int))] ∧ Same H H2, fun σ' H2 ⟨e, s2⟩ => ⟨_, by omega, j + 1, rfl, lt, e, s2⟩, _, rfl, _, _, rfl, rfl, rfl, (same_new sm hp)⟩
      · rw [if_neg (by rw [decide_eq_false hh]; decide)]
        have e : dayAt ns h = j := by
          refine Nat.le_antisymm (Nat.le_of_not_lt fun lt => hh ?_) hj
          have m := ahead_mono ok.all (i := j + 1) (j := dayAt ns h) lt (Nat.le_of_lt e1)
          omega
        subst e
        exact ⟨_, rfl, q _ (same_new sm hp)⟩
end
end K0
set_option Elab.async false
set_option linter.all false
set_option maxRecDepth 100000
set_option maxHeartbeats 4000000
/-! P3: the program: hours of days, starts. -/
namespace K0
open PySem PySem.Spec PyProof.Rows L2 BK LamX
def rgI (a b : Int) : List Int := (List.range (b - a).toNat).map fun i => a + (i : Nat)
theorem rgV_eq (a b : Int) : rgV a b = (rgI a b).map V.int := by
  unfold rgV rgI
  rw [List.map_map]
  rfl
/-- the starts of the first k days -/
def pre (ns : List Int) (len : Int) : Nat → List Int
  | 0 => []
  | k + 1 => pre ns len k ++ rgI (ahead ns k) (ahead ns (k + 1) - len + 1)
def starts (ns : List Int) (len : Int) : List Int := pre ns len ns.length
theorem mem_rgI {a b x : Int} : x ∈ rgI a b ↔ a ≤ x ∧ x < b := by
  unfold rgI
  rw [List.mem_map]
  constructor
  · rintro ⟨i, hi, rfl⟩
    have := List.mem_range.mp hi
    omega
  · rintro ⟨h1, h2⟩
    exact ⟨(x - a).toNat, List.mem_range.mpr (by omega), by omega⟩
theorem mem_pre {ns : List Int} {len x : Int} : ∀ {k : Nat}, x ∈ pre ns len k ↔ ∃ j, j < k ∧ ahead ns j ≤ x ∧ x + len ≤ ahead ns (j + 1)
  | 0 => by simp [pre]
  | k + 1 => by
    unfold pre
    rw [List.mem_append, mem_pre (k := k), mem_rgI]
    constructor
    · rintro (⟨j, h1, h2⟩ | ⟨h1, h2⟩)
      · exact ⟨j, by omega, h2⟩
      · exact ⟨k, by omega, h1, by omega⟩
    · rintro ⟨j, h1, h2, h3⟩
      by_cases e : j = k
      · subst e
        exact .inr ⟨h2, by omega⟩
      · exact .inl ⟨j, by omega, h2, h3⟩
theorem len_rgI (a b : Int) : (rgI a b).length = (b - a).toNat := by unfold rgI; simp
theorem len_pre {ns : List Int} (ok : OkN ns) {len : Int} (hl : 1 ≤ len) : ∀ k, k ≤ ns.length → ((pre ns len k).length : Int) ≤ ahead ns k
  | 0, _ => by simp [pre, ahead]
  | k + 1, h => by
    have ih := len_pre ok hl k (by omega)
    have m := ahead_mono ok.all (i := k) (j := k + 1) (by omega) h
    unfold pre
    rw [List.length_append, len_rgI]
    omega
def spStarts (K : PySem.W.Frag) : Sp := fun vs H Q _ => ∃ (a : Addr) (ns : List Int) (len : Int), vs = [.ref a, .int len] ∧ SqT K H a (ns.map V.int) ∧ OkN ns ∧ 1 ≤ len ∧ len ≤ 4 ∧ ∀ H' p, Same H H' → H' p = some (.lst ((starts ns len).map V.int)) → Q (.ref p) H'
section
variable {P : Program} {w : World} {K : PySem.W.Frag} {mg : Str → Option Value} {base : Heap}
theorem sLen : bootBuiltins "len" = some (.builtin "len") := by decide +kernel
theorem at_int {ns : List Int} {j : Nat} {n : Int} (h : ns[j]? = some n) : atI (ns.map V.int) ((j : Nat) : Int) = some (V.int n) := atI_nat (by rw [List.getElem?_map, h]; rfl)
theorem yes {σ : L2.St} {H : Hp} {C : Bool → Hp → Prop} (h : C true H) : tYes σ H C := h
theorem scHoursAt : FnScope ["days", "day", "first"] ["days", "day"] (defScope sHoursAt) := ⟨rfl, rfl, rfl, by decide +kernel, rfl, by decide +kernel, by decide +kernel⟩
theorem def_hoursAt (T : Bl mg) (F : At K mg "hours_at" sHoursAt ["days", "day"]) : Def P w K mg base CX0 1 "hours_at" ["days", "day"] (spHoursAt K) := by
  refine F.ok scHoursAt (fun vs H Q E h => ?_) (fun f cdv A outer s H vs Q E hr h => ?_)
  · obtain ⟨a, ns, j, rfl, _⟩ := h
    rfl
  · obtain ⟨a, ns, j, rfl, hs, ok, hj, q⟩ := h
    refine ⟨_, pss_cons (ps_set (i := 2) scHoursAt.nd rfl (Or.inl rfl) (pe_callB (cr_sumT rfl) (by rfl) T.sum sSum (pa_cons (pe_slice sl_tupA (pv 0) po_none (po_some (pv 1))) pa_nil)))
      (pss_one (ps_ret (pe_tupRg rfl (by rfl) T.tup (prg_2 (by rfl) T.rng (pv 2) (pe_op op_add (pv 2) (pe_ix ix_tup (pv 0) (pv 1) (fun _ _ => rfl))))))), ?_⟩
    obtain ⟨n, hn⟩ : ∃ n, ns[j]? = some n := ⟨ns[j], by simp [hj]⟩
    have e1 := ahead_succ hn
    have b1 := sum_bound ok j
    have b2 := sum_bound ok (j + 1)
    have rok : RgOk (ahead ns j) (ahead ns j + n) := RgOk.of_le (by omega) (by omega) (by omega) (by omega)
    refine ⟨_, rfl, _, rfl, _, rfl, a, _, rfl, hs, fun hw => ?_, fun hw p hp => ?_⟩
    · refine ⟨a, ns, rfl, hs, _, rfl, _, rfl, _, rfl, _, rfl, a, _, _, _, rfl, rfl, hs, at_int hn, _, _, rfl, rfl, _, _, rfl, rfl, ?_⟩
      rw [whole_sum hw]
      exact ⟨rok, fun p hp => q _ p (same_new (Same.refl H) hp) hp (by rw [upd_same, e1])⟩
    · refine ⟨p, ns.take j, rfl, SqT.of (by rw [upd_same, cut_take]), _, rfl, _, rfl, _, rfl, _, rfl, a, _, _, _, rfl, rfl, sqt_same (same_new (Same.refl H) hp) hs, at_int hn, _, _, rfl, rfl, _, _, rfl, rfl, rok, fun p2 hp2 => ?_⟩
      have s1 := same_new (o := HO.tup (cutV (ns.map V.int) none (some ((j : Nat) : Int)))) (Same.refl H) hp
      refine q _ p2 (same_new s1 hp2) (s1.free hp2) (by rw [upd_same, e1]; rfl)
theorem scStarts : FnScope ["days", "length", "found", "first", "many", "hour"] ["days", "length"] (defScope sStarts) := ⟨rfl, rfl, rfl, by decide +kernel, rfl, by decide +kernel, by decide +kernel⟩
theorem def_starts (T : Bl mg) (F : At K mg "starts_in" sStarts ["days", "length"]) : Def P w K mg base CX0 1 "starts_in" ["days", "length"] (spStarts K) := by
  refine F.ok scStarts (fun vs H Q E h => ?_) (fun f cdv A outer s H vs Q E hr h => ?_)
  · obtain ⟨a, ns, len, rfl, _⟩ := h
    rfl
  · obtain ⟨a, ns, len, rfl, hs, ok, l1, l2, q⟩ := h
    refine ⟨_, pss_cons (ps_set (i := 2) scStarts.nd rfl (Or.inl rfl) (pe_lst pa_nil))
      (pss_cons (ps_set (i := 3) scStarts.nd rfl (Or.inl rfl) pe_int)
      (pss_cons (ps_for PassesOwn.never rfl (pi_tup (pv 0)) (pg_name (i := 4) scStarts.nd rfl (Or.inl rfl))
        (pss_cons (ps_expr (pe_bm PySem.F.plainAttrs_list PySem.F.slot_list_extend PySem.F.type_list_extend mt_extend (pv 2)
            (pa_cons (pe_lc (own := [("hour", 5)]) (g := gName 5) (tt := tYes) rfl scStarts.nd (pi_range2 (by rfl) T.rng (pa_cons (pv 3) (pa_cons (pe_op op_add (pe_op op_sub (pe_op op_add (pv 3) (pv 4)) (pv 1)) pe_int) pa_nil)))
              (blkOk_by (N := ["days", "length", "found", "first", "many", "hour"]) (sc := defScope sStarts) (by decide +kernel)) (fun _ _ _ _ _ => pg_name (i := 5) scStarts.nd rfl (Or.inl rfl)) (fun _ _ _ _ _ => pts_nil) (fun _ _ _ _ _ => pv 5)) pa_nil)))
          (pss_one (ps_set (i := 3) scStarts.nd rfl (Or.inl rfl) (pe_op op_add (pv 3) (pv 4))))))
      (pss_one (ps_ret (pv 2))))), ?_⟩
    refine ⟨Nat.zero_le _, fun p hp => ?_⟩
    have s0 : Same H (upd H p (.lst [])) := same_new (Same.refl H) hp
    refine ⟨_, rfl, a, rfl, ⟨_, sqt_same s0 hs⟩, for_tup (K := K) (a := a) (xs := ns.map V.int) (fun i σ H' => ∃ (it : Option V), Same H H' ∧ H' p = some (.lst ((pre ns len i).map V.int)) ∧
      σ = [some (.ref a), some (.int len), some (.ref p), some (.int (ahead ns i)), it, none]) ?_ ?_ ?_ ?_⟩
    · exact ⟨none, s0, upd_same, rfl⟩
    · rintro i σ H' _ ⟨_, s1, _⟩
      exact sqt_same s1 hs
    · rintro i x σ H' hi ⟨it, s1, h1, rfl⟩
      obtain ⟨n, hn, rfl⟩ : ∃ n, ns[i]? = some n ∧ x = V.int n := by
        rw [List.getElem?_map] at hi
        cases e : ns[i]? with
        | none => rw [e] at hi; cases hi
        | some u => rw [e] at hi; exact ⟨u, rfl, (Option.some.inj hi).symm⟩
      have il : i < ns.length := (List.getElem?_eq_some_iff.mp hn).1
      have e1 := ahead_succ hn
      have b1 := sum_bound ok i
      have b2 := sum_bound ok (i + 1)
      have c0 : ((pre ns len i).length : Int) ≤ ahead ns i := len_pre ok l1 i (by omega)
      refine ⟨_, rfl, .inl ⟨rfl, _, SqL.of h1⟩, ?_⟩
      refine ⟨_, rfl, _, rfl, _, rfl, _, _, rfl, rfl, _, rfl, _, _, rfl, rfl, _, _, rfl, rfl, _, _, rfl, ⟨by omega, by omega, by omega, by omega⟩, fun D hD => ?_⟩
      have np : D ≠ p := fun z => by rw [z, h1] at hD; cases hD
      have nD : H D = none := s1.free hD
      refine lc_range (fun k H2 => (∀ b o, H' b = some o → H2 b = some o) ∧ H2 D = some (.lst ((List.range k).map fun j => V.int (ahead ns i + ((j : Nat) : Int))))) ?_ ?_ ?_
      · exact ⟨fun b o e => by rw [upd_ne (ne_of_none e hD)]; exact e, upd_same⟩
      · rintro k H2 hk ⟨s2, h2⟩
        refine ⟨rfl, yes ?_⟩
        rw [if_pos rfl]
        refine ⟨_, rfl, _, h2, by rw [List.length_map, List.length_range, sizeLine_eq]; omega, fun b o e => by rw [upd_ne (ne_of_none e hD)]; exact s2 b o e, ?_⟩
        rw [upd_same, List.range_succ, List.map_append]
        rfl
      · rintro H2 ⟨s2, h2⟩
        have e3 : (ahead ns i + n - len + 1 - ahead ns i).toNat = (ahead ns (i + 1) - len + 1 - ahead ns i).toNat := by rw [e1]
        refine ⟨p, D, (pre ns len i).map V.int, (rgI (ahead ns i) (ahead ns (i + 1) - len + 1)).map V.int, rfl, rfl, s2 _ _ h1, ?_, ?_, ?_⟩
        · rw [h2, e3]
          unfold rgI
          rw [List.map_map]
          rfl
        · rw [List.length_map, List.length_map, len_rgI, sizeLine_eq]
          omega
        · refine ⟨_, rfl, _, rfl, _, _, rfl, rfl, some (.int n), fun b o e => ?_, ?_, ?_⟩
          · rw [upd_ne (ne_of_none e hp)]
            exact s2 b o (s1 b o e)
          · rw [upd_same, ← List.map_append]
            rfl
          · rw [e1]
            rfl
    · rintro σ H' ⟨it, s1, h1, rfl⟩
      rw [List.length_map] at h1
      exact ⟨_, rfl, q H' p s1 h1⟩
end
end K0
set_option Elab.async false
set_option linter.all false
set_option maxRecDepth 100000
set_option maxHeartbeats 4000000
/-! P4: the program: what is refused. -/
namespace K0
open PySem PySem.Spec PyProof.Rows L2 BK LamX
/-- what the top says: the names of the program -/
structure Pg (P : Program) (w : World) (K : PySem.W.Frag) (mg : Str → Option Value) (base : Heap) (D S M N : Addr) : Prop where
  bl : Bl mg
  eD : ErrV P w K mg base "BadDays" "value" D
  eS : ErrV P w K mg base "BadSet" "value" S
  eM : ErrV P w K mg base "BadParameter" "value" M
  nQ : PySem.W.excIn K N [.type "ValueError", .type "Exception", .type "BaseException", .type "object"] "ValueError.__new__" = true
  gN : mg "NoRow" = some (.ref N)
  kN : PySem.W.keepIn K (.ref N) = true
  sN : PySem.W.subIn K (.ref N) (.type "BaseException") = some true
  tN : PySem.W.typeIn K (.ref N) = some (.type "type")
  c4 : ∃ t, mg "MOST_LENGTH" = some (.int 4 t)
  c6 : ∃ t, mg "GREATEST_MOST" = some (.int 1000000 t)
/-- no item is a list or a tuple -/
def atom : PyData → Bool
  | .list _ => false
  | .tuple _ => false
  | .dict _ => false
  | _ => true
def flat : PyData → Bool
  | .tuple ds => ds.all atom
  | _ => true
theorem flat_ints (ns : List Int) : flat (.tuple (ns.map .int)) = true := by
  simp [flat, atom]
section
variable (K : PySem.W.Frag) (T : List (Addr × Str)) (PG : Addr)
/-- grown, the tables as they must be -/
structure Gr (H H' : Hp) : Prop where
  ext : ExtN H H'
  tb : Tb T PG H'
def spIsDays : Sp := fun vs H Q _ => ∃ (x : V) (d : PyData), vs = [x] ∧ Rep K H x d ∧ flat d = true ∧ Tb T PG H ∧ ∀ H', Gr T PG H H' → Q (.bl (isDays d)) H'
/-- refused by the class C with the value x -/
def Ref (C : Addr) (x : V) (H : Hp) (E : XK) : Prop := ∀ H' dd, Gr T PG H H' → H' dd = some (.xd [("value", x)]) → E (.ref C) (some dd) H'
/-- the first parameter is days, else refused -/
structure DaysIn (D : Addr) (x : V) (d : PyData) (H : Hp) (E : XK) (C : List Int → Prop) : Prop where
  rep : Rep K H x d
  fl : flat d = true
  tb : Tb T PG H
  no : isDays d = false → Ref T PG D x H E
  yes : ∀ ns, d = .tuple (ns.map .int) → OkN ns → C ns
def spNeedDays (D : Addr) : Sp := fun vs H Q E => ∃ (x : V) (d : PyData), vs = [x] ∧ DaysIn K T PG D x d H E fun _ => ∀ H', Gr T PG H H' → Q x H'
def spHoursIn (D : Addr) : Sp := fun vs H Q E => ∃ (x : V) (d : PyData), vs = [x] ∧ DaysIn K T PG D x d H E fun ns => ∀ H', Gr T PG H H' → Q (.int ns.sum) H'
def spDayOf (D M : Addr) : Sp := fun vs H Q E => ∃ (x : V) (d : PyData) (y : V) (e : PyData), vs = [x, y] ∧ Rep K H y e ∧ DaysIn K T PG D x d H E fun ns =>
  (within e 0 (ns.sum - 1) = false → Ref T PG M y H E) ∧ ∀ h, e = .int h → 0 ≤ h → h < ns.sum → ∀ H', Gr T PG H H' → Q (.int (dayAt ns h : Nat)) H'
def spDayHours (D M : Addr) : Sp := fun vs H Q E => ∃ (x : V) (d : PyData) (y : V) (e : PyData), vs = [x, y] ∧ Rep K H y e ∧ DaysIn K T PG D x d H E fun ns =>
  (within e 0 ((ns.length : Int) - 1) = false → Ref T PG M y H E) ∧ ∀ j : Nat, e = .int (j : Nat) → j < ns.length → ∀ H' p, Gr T PG H H' → H' p = some (.tup (rgV (ahead ns j) (ahead ns (j + 1)))) → Q (.ref p) H'
def spHeld (D M N : Addr) : Sp := fun vs H Q E => ∃ (x : V) (d : PyData) (l : V) (f : PyData) (y : V) (e : PyData), vs = [x, l, y] ∧ Rep K H l f ∧ Rep K H y e ∧ DaysIn K T PG D x d H E fun ns =>
  (within f 1 4 = false → Ref T PG M l H E) ∧ (within f 1 4 = true → within e 0 (ns.sum - 1) = false → Ref T PG M y H E) ∧
  ∀ len h, f = .int len → e = .int h → 1 ≤ len → len ≤ 4 → 0 ≤ h → h < ns.sum →
    (h ∉ starts ns len → ∀ H', Gr T PG H H' → E (.ref N) none H') ∧ (h ∈ starts ns len → ∀ H' p, Gr T PG H H' → H' p = some (.tup (rgV h (h + len))) → Q (.ref p) H')
def spNeedSet (S M : Addr) : Sp := fun vs H Q E => ∃ (x : V) (d : PyData) (m : V) (e : PyData), vs = [x, m] ∧ Rep K H x d ∧ Rep K H m e ∧ Tb T PG H ∧ (within e 0 1000000 = false → Ref T PG M m H E) ∧
  ∀ most, e = .int most → 0 ≤ most → most ≤ 1000000 → (isSet most d = false → Ref T PG S x H E) ∧ (isSet most d = true → Q x H)
end
section
variable {T : List (Addr × Str)} {PG : Addr}
theorem Gr.refl {H : Hp} (t : Tb T PG H) : Gr T PG H H := ⟨ExtN.refl H, t⟩
theorem Gr.trans {H H1 H2 : Hp} (a : Gr T PG H H1) (b : Gr T PG H1 H2) : Gr T PG H H2 := ⟨a.ext.trans b.ext, b.tb⟩
theorem Gr.new {H H1 : Hp} {p : Addr} {o : HO} (a : Gr T PG H H1) (h : H1 p = none) : Gr T PG H (upd H1 p o) := ⟨a.ext.trans (ext_new h), tb_new h a.tb⟩
theorem tb_same {H H' : Hp} (e : Same H H') (t : Tb T PG H) : Tb T PG H' := by
  obtain ⟨ps, e1, e2⟩ := t.gen
  exact ⟨t.lam.ext e, ps, e _ _ e1, e2⟩
theorem Gr.same {H H1 H2 : Hp} (a : Gr T PG H H1) (e : Same H1 H2) : Gr T PG H H2 := ⟨a.ext.trans (ExtN.of e), tb_same e a.tb⟩
/-- fresh behind is fresh ahead -/
theorem Gr.free {H H' : Hp} (a : Gr T PG H H') {p : Addr} (h : H' p = none) (nt : ∀ ps, H p ≠ some (.tbl ps)) : H p = none := by
  cases q : H p with
  | none => rfl
  | some o =>
    have := a.ext p o q (fun ps z => nt ps (by rw [q, z]))
    rw [h] at this
    cases this
end
section
variable {P : Program} {w : World} {K : PySem.W.Frag} {mg : Str → Option Value} {base : Heap} {D S M N : Addr} {T : List (Addr × Str)} {PG : Addr}
theorem scNeedDays : FnScope ["days"] ["days"] (defScope sNeedDays) := ⟨rfl, rfl, rfl, by decide +kernel, rfl, by decide +kernel, by decide +kernel⟩
theorem def_needDays (G : Pg P w K mg base D S M N) (I : Def P w K mg base CX0 4 "is_days" ["value"] (spIsDays K T PG)) (F : At K mg "need_days" sNeedDays ["days"]) : Def P w K mg base (L2.CX P w) 6 "need_days" ["days"] (spNeedDays K T PG D) := by
  refine F.okX scNeedDays (fun vs H Q E h => ?_) (fun f cdv A outer s H vs Q E hr h => ?_)
  · obtain ⟨x, d, rfl, _⟩ := h
    rfl
  · obtain ⟨x, d, rfl, hx⟩ := h
    refine ⟨_, pss_cons (ps_if (pt_not (pt_val (pe_def I (hr.mono (by decide)) (by rfl) pass0 (pa_cons (pv 0) pa_nil))))
        (pss_one (ps_raiseV G.eD rfl (takes_of rfl rfl rfl rfl) (hr.mono (by decide)) (by rfl) (pa_cons (pv 0) pa_nil))) pss_nil)
      (pss_one (ps_ret (pv 0))), ?_⟩
    refine ⟨_, rfl, x, d, rfl, hx.rep, hx.fl, hx.tb, fun H1 g1 => ⟨_, rfl, ?_⟩⟩
    cases hd : isDays d with
    | false => exact ⟨_, rfl, mk_err fun dd hdd => hx.no hd _ dd (g1.new hdd) upd_same⟩
    | true =>
      obtain ⟨ns, rfl, ok⟩ := days_ints hd
      exact ⟨_, rfl, hx.yes ns rfl ok H1 g1⟩
theorem scHoursIn : FnScope ["days"] ["days"] (defScope sHoursIn) := ⟨rfl, rfl, rfl, by decide +kernel, rfl, by decide +kernel, by decide +kernel⟩
theorem def_hoursIn (G : Pg P w K mg base D S M N) (I : Def P w K mg base (L2.CX P w) 6 "need_days" ["days"] (spNeedDays K T PG D)) (F : At K mg "hours_in" sHoursIn ["days"]) : Def P w K mg base (L2.CX P w) 7 "hours_in" ["days"] (spHoursIn K T PG D) := by
  refine F.okX scHoursIn (fun vs H Q E h => ?_) (fun f cdv A outer s H vs Q E hr h => ?_)
  · obtain ⟨x, d, rfl, _⟩ := h
    rfl
  · obtain ⟨x, d, rfl, hx⟩ := h
    refine ⟨_, pss_one (ps_ret (pe_callB (cr_sumT rfl) (by rfl) G.bl.sum sSum (pa_cons (pe_def (E := E) I hr (by rfl) (passes_call (takes_of rfl rfl rfl rfl) fun _ _ _ _ h => h) (pa_cons (pv 0) pa_nil)) pa_nil))), ?_⟩
    refine ⟨_, rfl, x, d, rfl, hx.rep, hx.fl, hx.tb, hx.no, fun ns e ok H1 g1 => ?_⟩
    have hr' := hx.rep
    rw [e] at hr'
    obtain ⟨a, rfl, ha⟩ := rep_ints hr'
    exact ⟨a, ns, rfl, sqt_ext g1.ext ha, hx.yes ns e ok H1 g1⟩
theorem scDayOf : FnScope ["days", "hour"] ["days", "hour"] (defScope sDayOf) := ⟨rfl, rfl, rfl, by decide +kernel, rfl, by decide +kernel, by decide +kernel⟩
theorem def_dayOf (G : Pg P w K mg base D S M N) (I : Def P w K mg base (L2.CX P w) 7 "hours_in" ["days"] (spHoursIn K T PG D)) (W : Def P w K mg base CX0 2 "is_within" ["value", "low", "high"] (spWithin K))
    (A1 : Def P w K mg base CX0 1 "day_at" ["days", "hour"] (spDayAt K)) (F : At K mg "day_of" sDayOf ["days", "hour"]) : Def P w K mg base (L2.CX P w) 8 "day_of" ["days", "hour"] (spDayOf K T PG D M) := by
  refine F.okX scDayOf (fun vs H Q E h => ?_) (fun f cdv A outer s H vs Q E hr h => ?_)
  · obtain ⟨x, d, y, e, rfl, _⟩ := h
    rfl
  · obtain ⟨x, d, y, e, rfl, hy, hx⟩ := h
    refine ⟨_, pss_cons (ps_if (pt_not (pt_val (pe_def W (hr.mono (by decide)) (by rfl) pass0 (pa_cons (pv 1) (pa_cons pe_int (pa_cons (pe_op op_sub (pe_def (E := E) I hr (by rfl) (passes_call (takes_of rfl rfl rfl rfl) fun _ _ _ _ h => h) (pa_cons (pv 0) pa_nil)) pe_int) pa_nil))))))
        (pss_one (ps_raiseV G.eM rfl (takes_of rfl rfl rfl rfl) (hr.mono (by decide)) (by rfl) (pa_cons (pv 1) pa_nil))) pss_nil)
      (pss_one (ps_ret (pe_def A1 (hr.mono (by decide)) (by rfl) pass0 (pa_cons (pv 0) (pa_cons (pv 1) pa_nil))))), ?_⟩
    refine ⟨_, rfl, _, rfl, x, d, rfl, hx.rep, hx.fl, hx.tb, hx.no, fun ns ed ok H1 g1 => ?_⟩
    obtain ⟨c1, c2⟩ := hx.yes ns ed ok
    refine ⟨_, _, rfl, rfl, y, e, 0, ns.sum - 1, rfl, hy.ext g1.ext, _, rfl, ?_⟩
    cases hw : within e 0 (ns.sum - 1) with
    | false => exact ⟨_, rfl, mk_err fun dd hdd => c1 hw _ dd (g1.new hdd) upd_same⟩
    | true =>
      obtain ⟨h, rfl, h0, h1⟩ := within_int hw
      cases hy
      have hr' := hx.rep
      rw [ed] at hr'
      obtain ⟨a, rfl, ha⟩ := rep_ints hr'
      exact ⟨_, rfl, _, rfl, a, ns, h, rfl, sqt_ext g1.ext ha, ok, h0, by omega, fun H2 s2 => c2 h rfl h0 (by omega) H2 (g1.same s2)⟩
theorem scDayHours : FnScope ["days", "day"] ["days", "day"] (defScope sDayHours) := ⟨rfl, rfl, rfl, by decide +kernel, rfl, by decide +kernel, by decide +kernel⟩
theorem def_dayHours (G : Pg P w K mg base D S M N) (I : Def P w K mg base (L2.CX P w) 6 "need_days" ["days"] (spNeedDays K T PG D)) (W : Def P w K mg base CX0 2 "is_within" ["value", "low", "high"] (spWithin K))
    (A1 : Def P w K mg base CX0 1 "hours_at" ["days", "day"] (spHoursAt K)) (F : At K mg "day_hours" sDayHours ["days", "day"]) : Def P w K mg base (L2.CX P w) 8 "day_hours" ["days", "day"] (spDayHours K T PG D M) := by
  refine F.okX scDayHours (fun vs H Q E h => ?_) (fun f cdv A outer s H vs Q E hr h => ?_)
  · obtain ⟨x, d, y, e, rfl, _⟩ := h
    rfl
  · obtain ⟨x, d, y, e, rfl, hy, hx⟩ := h
    refine ⟨_, pss_cons (ps_expr (pe_def (E := E) I (hr.mono (by decide)) (by rfl) (passes_call (takes_of rfl rfl rfl rfl) fun _ _ _ _ h => h) (pa_cons (pv 0) pa_nil)))
      (pss_cons (ps_if (pt_not (pt_val (pe_def W (hr.mono (by decide)) (by rfl) pass0 (pa_cons (pv 1) (pa_cons pe_int (pa_cons (pe_op op_sub (pe_callB call_len_seq (by rfl) G.bl.len sLen (pa_cons (pv 0) pa_nil)) pe_int) pa_nil))))))
        (pss_one (ps_raiseV G.eM rfl (takes_of rfl rfl rfl rfl) (hr.mono (by decide)) (by rfl) (pa_cons (pv 1) pa_nil))) pss_nil)
      (pss_one (ps_ret (pe_def A1 (hr.mono (by decide)) (by rfl) pass0 (pa_cons (pv 0) (pa_cons (pv 1) pa_nil)))))), ?_⟩
    refine ⟨_, rfl, x, d, rfl, hx.rep, hx.fl, hx.tb, hx.no, fun ns ed ok H1 g1 => ?_⟩
    obtain ⟨c1, c2⟩ := hx.yes ns ed ok
    have hr' := hx.rep
    rw [ed] at hr'
    obtain ⟨a, rfl, ha⟩ := rep_ints hr'
    have ha1 := sqt_ext g1.ext ha
    refine ⟨_, rfl, _, rfl, a, _, rfl, .inr ha1, _, _, rfl, rfl, y, e, 0, ((ns.length : Int) - 1), by rw [List.length_map]; rfl, hy.ext g1.ext, _, rfl, ?_⟩
    cases hw : within e 0 ((ns.length : Int) - 1) with
    | false => exact ⟨_, rfl, mk_err fun dd hdd => c1 hw _ dd (g1.new hdd) upd_same⟩
    | true =>
      obtain ⟨h, rfl, h0, h1⟩ := within_int hw
      obtain ⟨j, rfl⟩ : ∃ j : Nat, h = (j : Nat) := ⟨h.toNat, by omega⟩
      cases hy
      exact ⟨_, rfl, _, rfl, a, ns, j, rfl, ha1, ok, by omega, fun H2 p s2 _ hp => c2 j rfl (by omega) H2 p (g1.same s2) hp⟩
theorem scHeld : FnScope ["days", "length", "hour"] ["days", "length", "hour"] (defScope sHeld) := ⟨rfl, rfl, rfl, by decide +kernel, rfl, by decide +kernel, by decide +kernel⟩
theorem flat_all (ns : List Int) : (ns.map V.int).all flatV = true := by
  simp only [List.all_map, List.all_eq_true]
  intro n _
  rfl
theorem inV_ints {ns : List Int} {h : Int} : inV (.int h) (ns.map V.int) = decide (h ∈ ns) := by
  unfold inV
  rw [List.any_map, Bool.eq_iff_iff, List.any_eq_true, decide_eq_true_eq]
  constructor
  · rintro ⟨n, hn, e⟩
    have : n = h := by simpa [eqV] using e
    rw [← this]
    exact hn
  · intro hn
    exact ⟨h, hn, by simp [eqV]⟩
theorem def_held (G : Pg P w K mg base D S M N) (I0 : Def P w K mg base (L2.CX P w) 6 "need_days" ["days"] (spNeedDays K T PG D)) (I : Def P w K mg base (L2.CX P w) 7 "hours_in" ["days"] (spHoursIn K T PG D)) (W : Def P w K mg base CX0 2 "is_within" ["value", "low", "high"] (spWithin K))
    (A1 : Def P w K mg base CX0 1 "starts_in" ["days", "length"] (spStarts K)) (F : At K mg "held_hours" sHeld ["days", "length", "hour"]) : Def P w K mg base (L2.CX P w) 8 "held_hours" ["days", "length", "hour"] (spHeld K T PG D M N) := by
  refine F.okX scHeld (fun vs H Q E h => ?_) (fun f cdv A outer s H vs Q E hr h => ?_)
  · obtain ⟨x, d, l, g, y, e, rfl, _⟩ := h
    rfl
  · obtain ⟨x, d, l, g, y, e, rfl, hl, hy, hx⟩ := h
    obtain ⟨t4, m4⟩ := G.c4
    refine ⟨_, pss_cons (ps_expr (pe_def (E := E) I0 (hr.mono (by decide)) (by rfl) (passes_call (takes_of rfl rfl rfl rfl) fun _ _ _ _ h => h) (pa_cons (pv 0) pa_nil)))
      (pss_cons (ps_if (pt_not (pt_val (pe_def W (hr.mono (by decide)) (by rfl) pass0 (pa_cons (pv 1) (pa_cons pe_int (pa_cons (pe_glob (v := .int 4) (by rfl) m4 ⟨_, rfl⟩) pa_nil))))))
        (pss_one (ps_raiseV G.eM rfl (takes_of rfl rfl rfl rfl) (hr.mono (by decide)) (by rfl) (pa_cons (pv 1) pa_nil))) pss_nil)
      (pss_cons (ps_if (pt_not (pt_val (pe_def W (hr.mono (by decide)) (by rfl) pass0 (pa_cons (pv 2) (pa_cons pe_int (pa_cons (pe_op op_sub (pe_def (E := E) I hr (by rfl) (passes_call (takes_of rfl rfl rfl rfl) fun _ _ _ _ h => h) (pa_cons (pv 0) pa_nil)) pe_int) pa_nil))))))
        (pss_one (ps_raiseV G.eM rfl (takes_of rfl rfl rfl rfl) (hr.mono (by decide)) (by rfl) (pa_cons (pv 2) pa_nil))) pss_nil)
      (pss_cons (ps_if (pt_cmpR op_notIn_seq (pv 2) (pe_def A1 (hr.mono (by decide)) (by rfl) pass0 (pa_cons (pv 0) (pa_cons (pv 1) pa_nil))) rfl)
        (pss_one (ps_raise rfl (takes_of rfl rfl rfl rfl) (pmk_own0 PySem.F.excBase_ValueError G.nQ G.gN G.kN (raises_own G.sN G.tN) (by rfl)))) pss_nil)
      (pss_one (ps_ret (pe_tupRg rfl (by rfl) G.bl.tup (prg_2 (by rfl) G.bl.rng (pv 2) (pe_op op_add (pv 2) (pv 1))))))))), ?_⟩
    refine ⟨_, rfl, x, d, rfl, hx.rep, hx.fl, hx.tb, hx.no, fun ns ed ok H1 g1 => ?_⟩
    obtain ⟨c1, c2, c3⟩ := hx.yes ns ed ok
    have hr' := hx.rep
    rw [ed] at hr'
    obtain ⟨a, rfl, ha⟩ := rep_ints hr'
    refine ⟨_, rfl, l, g, 1, 4, rfl, hl.ext g1.ext, _, rfl, ?_⟩
    cases hw : within g 1 4 with
    | false => exact ⟨_, rfl, mk_err fun dd hdd => c1 hw _ dd (g1.new hdd) upd_same⟩
    | true =>
      have hx1 : Rep K H1 (.ref a) d := hx.rep.ext g1.ext
      refine ⟨_, rfl, _, rfl, .ref a, d, rfl, hx1, hx.fl, g1.tb, fun no => absurd (isDays_of ok) (by rw [← ed, no]; decide), fun ms em _ H2 g2 => ?_⟩
      have es : ms = ns := by
        rw [ed] at em
        have := PyData.tuple.inj em
        exact ((List.map_inj_right (fun _ _ z => PyData.int.inj z)).mp this).symm
      subst es
      have g12 := g1.trans g2
      refine ⟨_, _, rfl, rfl, y, e, 0, ms.sum - 1, rfl, hy.ext g12.ext, _, rfl, ?_⟩
      cases hw2 : within e 0 (ms.sum - 1) with
      | false => exact ⟨_, rfl, mk_err fun dd hdd => c2 hw hw2 _ dd (g12.new hdd) upd_same⟩
      | true =>
        obtain ⟨len, rfl, l1, l2⟩ := within_int hw
        obtain ⟨h, rfl, h0, h1⟩ := within_int hw2
        obtain ⟨d1, d2⟩ := c3 len h rfl rfl l1 l2 h0 (by omega)
        cases hl
        cases hy
        refine ⟨_, rfl, _, rfl, _, rfl, a, ms, len, rfl, sqt_ext g12.ext ha, ok, l1, l2, fun H3 p s3 hp => ?_⟩
        refine ⟨p, _, rfl, .inl (SqL.of hp), rfl, flat_all _, _, rfl, ?_⟩
        rw [inV_ints]
        have g3 := g12.same s3
        have hs := ok.sum
        by_cases hm : h ∈ starts ms len
        · rw [decide_eq_true hm]
          refine ⟨_, rfl, _, rfl, _, rfl, _, _, rfl, rfl, _, _, rfl, rfl, RgOk.of_le h0 (by omega) (by omega) (by omega), fun q hq => d2 hm _ q (g3.new hq) upd_same⟩
        · rw [decide_eq_false hm]
          exact d1 hm H3 g3
theorem scNeedSet : FnScope ["value", "most"] ["value", "most"] (defScope sNeedSet) := ⟨rfl, rfl, rfl, by decide +kernel, rfl, by decide +kernel, by decide +kernel⟩
theorem def_needSet (G : Pg P w K mg base D S M N) (W : Def P w K mg base CX0 2 "is_within" ["value", "low", "high"] (spWithin K))
    (A1 : Def P w K mg base CX0 3 "is_set" ["value", "most"] (spSet K)) (F : At K mg "need_set" sNeedSet ["value", "most"]) : Def P w K mg base (L2.CX P w) 8 "need_set" ["value", "most"] (spNeedSet K T PG S M) := by
  refine F.okX scNeedSet (fun vs H Q E h => ?_) (fun f cdv A outer s H vs Q E hr h => ?_)
  · obtain ⟨x, d, m, e, rfl, _⟩ := h
    rfl
  · obtain ⟨x, d, m, e, rfl, hx, hm, tb, c1, c2⟩ := h
    obtain ⟨t6, m6⟩ := G.c6
    refine ⟨_, pss_cons (ps_if (pt_not (pt_val (pe_def W (hr.mono (by decide)) (by rfl) pass0 (pa_cons (pv 1) (pa_cons pe_int (pa_cons (pe_glob (v := .int 1000000) (by rfl) m6 ⟨_, rfl⟩) pa_nil))))))
        (pss_one (ps_raiseV G.eM rfl (takes_of rfl rfl rfl rfl) (hr.mono (by decide)) (by rfl) (pa_cons (pv 1) pa_nil))) pss_nil)
      (pss_cons (ps_if (pt_not (pt_val (pe_def A1 (hr.mono (by decide)) (by rfl) pass0 (pa_cons (pv 0) (pa_cons (pv 1) pa_nil)))))
        (pss_one (ps_raiseV G.eS rfl (takes_of rfl rfl rfl rfl) (hr.mono (by decide)) (by rfl) (pa_cons (pv 0) pa_nil))) pss_nil)
      (pss_one (ps_ret (pv 0)))), ?_⟩
    have g0 := Gr.refl (T := T) (PG := PG) tb
    refine ⟨_, rfl, m, e, 0, 1000000, rfl, hm, _, rfl, ?_⟩
    cases hw : within e 0 1000000 with
    | false => exact ⟨_, rfl, mk_err fun dd hdd => c1 hw _ dd (g0.new hdd) upd_same⟩
    | true =>
      obtain ⟨most, rfl, h0, h1⟩ := within_int hw
      obtain ⟨d1, d2⟩ := c2 most rfl h0 h1
      cases hm
      refine ⟨_, rfl, _, rfl, x, d, most, rfl, hx, _, rfl, ?_⟩
      cases hs : isSet most d with
      | false => exact ⟨_, rfl, mk_err fun dd hdd => d1 hs _ dd (g0.new hdd) upd_same⟩
      | true => exact ⟨_, rfl, d2 hs⟩
end
end K0
set_option Elab.async false
set_option linter.all false
set_option maxRecDepth 100000
set_option maxHeartbeats 4000000
/-! KitO: tests with or. -/
namespace BK
open PySem PySem.Spec PyProof.Rows L2
/-- a or b or ..., as a test -/
structure PO (X : Cx) (pos : Pos) (es : List Expr) (t : TT) : Prop where
  run : ∀ (whole : Sem Value) (pins : List (Addr × Obj)) (s : Shared) (σ : L2.St) (H : Hp) (Q : Bool → Hp → Prop), Inv X pins σ H s → t σ H Q →
    wpAny (model X.prog X.w) X.A (isTrue (.BoolOp .Or es pos) X.env whole) (fun d s' => ∃ H', Inv X pins σ H' s' ∧ Q d H') X.xe s
def tOr0 : TT := fun _ H Q => Q false H
def tOr1 (t u : TT) : TT := fun σ H Q => t σ H fun c H1 => if c = true then Q true H1 else u σ H1 Q
section
variable {X : Cx} {pos : Pos} {e : Expr} {es : List Expr} {t u : TT}
theorem po_nil : PO X pos [] tOr0 := ⟨fun _ _ _ _ H _ I h => isTrue_or_nil ⟨H, I, h⟩⟩
theorem po_cons (a : PT X e t) (r : PO X pos es u) : PO X pos (e :: es) (tOr1 t u) := by
  constructor
  intro whole pins s σ H Q I h
  apply isTrue_or
  apply thn (a.run pins s σ H _ I h)
  rintro c s1 ⟨H1, I1, q⟩
  cases c with
  | true => exact ⟨H1, I1, q⟩
  | false => exact r.run whole pins s1 σ H1 Q I1 q
theorem pt_or (o : PO X pos es t) : PT X (.BoolOp .Or es pos) t := ⟨fun pins s σ H Q I h => o.run _ pins s σ H Q I h⟩
end
end BK
set_option Elab.async false
set_option linter.all false
set_option maxRecDepth 100000
set_option maxHeartbeats 4000000
/-! KitN: enumerate of a tuple. -/
namespace BK
open PySem PySem.Spec PyProof.Rows L2
/-- enumerate(v), v by what its iterator is -/
theorem enum_meets {v : Value} {o : Obj} {Z : Heap → Prop} (B : Begins v o Z) :
    Meets (Builtin.«enumerate.__new__» ⟨[.type "enumerate", v], []⟩) (fun _ R s => Z s.heap ∧
      R (.ok (.ret (.ref (s.heap.push o).objs.size))) { s with heap := (s.heap.push o).push { cls := .type "enumerate", data := .fields #[.none, .bool false, .ref s.heap.objs.size, rawInt 0, .none, .none] } }) := by
  apply Meets.of_wp
  rintro prog w A R ⟨hp, g, d, tk, os⟩ ⟨z, fin⟩
  have sub := sub_enumerate
  have it : ∀ {A' : Around} {E : Value → Shared → Prop} {Q : Value → Shared → Prop}, Q (.ref hp.objs.size) ⟨hp.push o, g, d, tk, os⟩ → wpAny (model prog w) A' (pyIter v) Q E ⟨hp, g, d, tk, os⟩ := fun q => B.iter prog w _ _ _ _ z q
  wp_walk using it
  apply wpAny_stack_any
  intro st
  apply wpAny_pure
  split
  · rename_i c _ _ _ _ _
    by_cases e : (c == Value.type "enumerate") = true <;> simp only [e] <;> (wp_walk using it; exact ⟨_, rfl, fin⟩)
  · wp_walk using it
    exact ⟨_, rfl, fin⟩
section
variable {prog : Program} {w : World} {A : Around} {E : Value → Shared → Prop} {s : Shared}
theorem call_enumT {t : Addr} {its : Array Value} {Q : Value → Shared → Prop} (ht : s.heap.IsTuple t its)
    (h : ∀ h', IsEnum h' (s.heap.objs.size + 1) s.heap.objs.size 0 .none → h'.IsTupleIter s.heap.objs.size t 0 → (∀ b o, s.heap.get? b = some o → h'.get? b = some o) → Q (.ref (s.heap.objs.size + 1)) { s with heap := h' }) :
    wpAny (model prog w) A (call (.type "enumerate") [.ref t]) Q E s := by
  apply callType_new F.called_enumerate (by decide) (F.typeCall_enumerate_1 _) (F.newCall_enumerate_1 _) (fun obj => F.args_object_init_2 obj _) F.entry_enumerate_new (enum_meets (begins_tuple t its))
  refine ⟨ht, ?_⟩
  generalize eo : ({ cls := .type "tuple_iterator", data := .fields #[.ref t, .int 0 0] } : Obj) = o
  have free : o.isFreed = false := by rw [← eo]; rfl
  have size1 : (s.heap.push o).objs.size = s.heap.objs.size + 1 := Heap.size_push ..
  generalize ee : ({ cls := .type "enumerate", data := .fields #[.none, .bool false, .ref s.heap.objs.size, rawInt 0, .none, .none] } : Obj) = e
  have free2 : e.isFreed = false := by rw [← ee]; rfl
  have atE : ((s.heap.push o).push e).get? (s.heap.objs.size + 1) = some e := by
    have := Heap.get?_push_size (s.heap.push o) (o := e) free2
    rwa [size1] at this
  have atO : ((s.heap.push o).push e).get? s.heap.objs.size = some o := Heap.get?_push_of_some _ (Heap.get?_push_size _ free)
  show _ ∧ _
  rw [size1]
  refine ⟨⟨e, atE, by rw [← ee]⟩, h _ ?_ ?_ fun b u k => Heap.get?_push_of_some _ (Heap.get?_push_of_some _ k)⟩
  · rw [← ee] at atE ⊢
    exact atE
  · rw [← eo] at atO ⊢
    exact ⟨_, atO, rfl, rfl⟩
end
/-- the tuple at a, each item in a new pair with its place -/
def Ite2 (K : PySem.W.Frag) (a : Addr) : It where
  go := fun i H => ∃ (xs : List V) (x : V), SqT K H a xs ∧ xs[i]? = some x
  yld := fun i H v H' => ∃ (T : Addr) (x : V), v = .ref T ∧ H T = none ∧ H' = upd H T (.tup [.int (i : Nat), x]) ∧ ∀ xs, SqT K H a xs → xs[i]? = some x
  stop := fun i H => ∃ xs : List V, SqT K H a xs ∧ xs.length = i
/-- how it stands at turn i: the enumerate at e, its iterator at it -/
def EnT (a e it : Addr) (i : Nat) (h : Heap) : Prop := (∃ old, IsEnum h e it ((i : Nat) : Int) old) ∧ h.IsTupleIter it a i ∧ e ≠ it
theorem EnT.apart {a e it : Addr} {i : Nat} {h : Heap} {its : Array Value} (t : EnT a e it i h) (p : h.IsTuple a its) : a ≠ it ∧ a ≠ e := by
  obtain ⟨⟨old, he⟩, ⟨o, ho, hc, _⟩, _⟩ := t
  obtain ⟨o2, h2, c2, _⟩ := p
  constructor
  · rintro rfl
    rw [ho] at h2
    cases h2
    rw [hc] at c2
    exact absurd c2 (by decide)
  · rintro rfl
    rw [he] at h2
    cases h2
    replace c2 : Value.type "enumerate" = Value.type "tuple" := c2
    exact absurd c2 (by decide)
theorem two_cases {b x y : Addr} {C : Prop} (hb : b ∈ [x, y]) (h1 : b = x → C) (h2 : b = y → C) : C := by
  simp only [List.mem_cons, List.not_mem_nil, or_false] at hb
  exact hb.elim h1 h2
theorem turn_enumT {P : Program} {w : World} {K : PySem.W.Frag} {elts : List Expr} {kk : Nat} {tpos : Pos} (a e it : Addr) : Turn P w K (.Tuple elts kk tpos) (Ite2 K a) [e, it] e (EnT a e it) where
  mem := List.mem_cons_self ..
  obj := by
    rintro i h ⟨⟨old, he⟩, ⟨o, ho, _, hd⟩, _⟩ b hb
    apply two_cases hb
    · rintro rfl
      exact ⟨_, he, fun v q => nomatch q⟩
    · rintro rfl
      exact ⟨o, ho, fun v q => by rw [hd] at q; cases q⟩
  keep := by
    rintro i h h' ⟨⟨old, he⟩, hi, ne⟩ k
    exact ⟨⟨old, k e (by simp) _ he⟩, hi.at fun o q => k it (by simp) o q, ne⟩
  item := by
    rintro X rfl rfl rfl calm i pins s σ H E I fp st ⟨xs, x, hq, hx⟩
    obtain ⟨its, rv, p, _⟩ := I.tuple hq
    have ap := st.apart (its := its.toArray) p
    obtain ⟨⟨old, he⟩, hi, ne⟩ := st
    obtain ⟨u, hu, ru⟩ := rv.get hx
    have lt : i < its.toArray.size := by
      have := (List.getElem?_eq_some_iff.mp hu).1
      simpa using this
    have el := Heap.lt_size he
    have il : it < s.heap.objs.size := by
      obtain ⟨_, q, _⟩ := hi
      exact Heap.lt_size q
    refine wpAny_pyNext_enum_itemD (Draws.tuple (A := X.A.in1) (I.ok.hd calm) it a ap.1 its.toArray) he ⟨hi, p⟩ lt ne ?_ ?_
    · simp only [List.mem_cons, List.not_mem_nil, or_false, not_or]
      exact ⟨ne, Ne.symm ap.2⟩
    · intro y h1 tk hy out st1 tup size1 keep1
      have ey : y = u := by
        have h9 : its[i]? = some y := by simpa using hy
        rw [hu] at h9
        exact (Option.some.inj h9).symm
      subst ey
      refine ⟨_, rfl, ?_⟩
      apply wpAny_letOwnedTupleGo_enum out
      intro h2 he2 sb
      have nT : s.heap.objs.size ≠ e := Nat.ne_of_gt el
      have tup2 : h2.get? s.heap.objs.size = some { cls := .type "tuple", data := .seq #[.int i tk, y] } := (sb.2 _ nT).trans tup
      have new : ObjOk X.prog X.w (upd H s.heap.objs.size (.tup [.int (i : Nat), x])) h2 s.heap.objs.size (.tup [.int (i : Nat), x]) := ⟨by show 2 ≤ sizeLine; decide, [.int i tk, y], .cons ⟨_, rfl⟩ (.cons ru .nil), ⟨_, tup2, rfl, _, rfl⟩⟩
      have J := I.turnedNew (t' := tk + 1) (h' := h2) (ch := [e, it]) (fun b ob hb q => by
        have b1 : b ≠ e := fun z => hb (by simp [z])
        have b2 : b ≠ it := fun z => hb (by simp [z])
        exact (sb.2 b b1).trans (keep1 b ob b1 b2 q)) fp (Nat.le_refl _) new
      refine ⟨.ref s.heap.objs.size, _, J, rfl, ⟨_, x, rfl, I.hok.fresh (Nat.le_refl _), rfl, fun ys hy => by rw [I.tuple_inj hy hq]; exact hx⟩, ⟨⟨y, ?_⟩, ?_, ne⟩, fun b hb => ?_⟩
      · have e1 : ((i + 1 : Nat) : Int) = (i : Int) + 1 := by omega
        rw [e1]
        exact he2
      · exact st1.1.at fun o q => (sb.2 it (Ne.symm ne)).trans q
      · have hn := (fp b hb).1
        have nb : b ≠ s.heap.objs.size := two_cases hb (fun z => by rw [z]; exact Nat.ne_of_lt el) fun z => by rw [z]; exact Nat.ne_of_lt il
        rw [upd_ne nb]
        exact hn
  done := by
    rintro X rfl rfl rfl calm i pins s σ H E I fp st ⟨xs, hq, hx⟩
    obtain ⟨its, rv, p, _⟩ := I.tuple hq
    have ap := st.apart (its := its.toArray) p
    obtain ⟨⟨old, he⟩, hi, ne⟩ := st
    have hl := rv.length
    have ei : its.toArray.size = i := by
      simp only [List.size_toArray]
      omega
    rw [← ei] at hi
    refine wpAny_pyNext_enum_endD (Draws.tuple (A := X.A.in1) (I.ok.hd calm) it a ap.1 its.toArray) he ⟨hi, p⟩ fun h' eb => ⟨rfl, ?_⟩
    obtain ⟨f0, f1, f2, f3, f4, f5⟩ := fp it (by simp)
    exact I.turned (t' := s.toks) (fun b o hb q => eb b o hb q) f0 f1 f3 f4 f5
  self := by
    rintro A i s Q E ⟨⟨old, he⟩, _⟩ h
    exact wpAny_pyIter_enum he h
def iEnumT (K : PySem.W.Frag) (ta : TA) : TI := fun σ H R => ta σ H fun vs H1 => ∃ a xs, vs = [.ref a] ∧ SqT K H1 a xs ∧ R (Ite2 K a) H1
theorem pi_enumT {X : Cx} {e : Expr} {ta : TA} {p pos tpos : Pos} {elts : List Expr} {kk : Nat} (hg : Gl X "enumerate") (hm : X.mg "enumerate" = none) (ha : PA X [e] ta) (hs : starEach [e] X.env = [(false, eval e X.env)] := by rfl) :
    PI X (.Tuple elts kk tpos) (.Call (.Name "enumerate" p) [e] [] pos) (iEnumT X.K ta) := by
  constructor
  intro pins s σ H R I h
  refine Call_ ?_
  apply ld_blt I hg hm boot_enumerate
  apply PyProof.Rows.callWith_type1 _ hs rfl
  apply thn (ha.run pos pins s σ H _ I h)
  rintro us s1 ⟨vs, H1, I1, r1, a, xs, rfl, hq, q⟩
  cases r1 with
  | cons r rr =>
    cases rr
    obtain rfl : _ = Value.ref a := r
    obtain ⟨its, rv, pt, _⟩ := I1.tuple hq
    have pT : s1.heap.IsTuple a its.toArray := pt
    apply call_enumT pT
    intro h' he hi keep
    apply wpAny_pyIter_enum he
    refine ⟨s1.heap.objs.size + 1, [s1.heap.objs.size + 1, s1.heap.objs.size], _, Ite2 X.K a, H1, rfl, I1.kept (t' := s1.toks) keep, turn_enumT a (s1.heap.objs.size + 1) s1.heap.objs.size, ⟨⟨.none, he⟩, hi, Nat.succ_ne_self _⟩, fun b hb => ?_, q⟩
    have le : s1.heap.objs.size ≤ b := two_cases hb (fun z => by rw [z]; exact Nat.le_succ _) fun z => by rw [z]; exact Nat.le_refl _
    exact I1.fpOk le (I1.hok.fresh le)
/-- a loop over it -/
theorem for_enumT {K : PySem.W.Frag} {a : Addr} {xs : List V} {g : TG} {tb : TS} {D : Ends} {σ : L2.St} {H : Hp} (Pv : Nat → L2.St → Hp → Prop) (h0 : Pv 0 σ H) (hl : ∀ i σ H, i ≤ xs.length → Pv i σ H → SqT K H a xs)
    (hs : ∀ i x σ H T, xs[i]? = some x → Pv i σ H → H T = none → g (.ref T) σ (upd H T (.tup [.int (i : Nat), x])) fun σ2 H2 => tb { D with nx := Pv (i + 1), ct := Pv (i + 1), bk := D.nx } σ2 H2) (hd : ∀ σ H, Pv xs.length σ H → D.nx σ H) :
    ∃ W : Nat → Nat → L2.St → Hp → Prop, (∃ m, W 0 m σ H) ∧ ∀ i m σ H, W i m σ H →
      ((Ite2 K a).stop i H ∧ D.nx σ H) ∨ ((Ite2 K a).go i H ∧ ∃ N : L2.St → Hp → Prop, (∀ σ' H', N σ' H' → ∃ m', m' < m ∧ W (i + 1) m' σ' H') ∧ ∀ x H', (Ite2 K a).yld i H x H' → g x σ H' fun σ2 H2 => tb { D with nx := N, ct := N, bk := D.nx } σ2 H2) := by
  refine ⟨fun i m σ H => i ≤ xs.length ∧ m = xs.length - i ∧ Pv i σ H, ⟨_, Nat.zero_le _, rfl, h0⟩, ?_⟩
  rintro i m σ H ⟨le, rfl, pv⟩
  have hq := hl i σ H le pv
  by_cases e : i = xs.length
  · subst e
    exact .inl ⟨⟨xs, hq, rfl⟩, hd σ H pv⟩
  · have lt : i < xs.length := by omega
    refine .inr ⟨⟨xs, xs[i], hq, by simp [lt]⟩, Pv (i + 1), fun σ' H' h => ⟨_, by omega, by omega, rfl, h⟩, ?_⟩
    rintro x H' ⟨T, y, rfl, hT, rfl, hy⟩
    exact hs i y σ H T (hy xs hq) pv hT
end BK
set_option Elab.async false
set_option linter.all false
set_option maxRecDepth 100000
set_option maxHeartbeats 4000000
/-! P5: defs whose code object is known; is_days. -/
namespace K0
open PySem PySem.Spec PyProof.Rows L2 BK LamX
/-- a def under its name, its code object's table at P -/
structure AtC (K : PySem.W.Frag) (mg : Str → Option Value) (base : Heap) (x : Str) (st : Stmt) (ps : List Str) (P : Addr) : Prop where
  ex : ∃ (f : Addr) (oc : Value) (od : Option Addr) (kV doc pm : Value) (an : Option Addr) (c : Addr) (ct : Value) (osl : Array (Option Value)),
    K.lookup f = some ⟨oc, od, .func (PySem.W.fnOf x x (defArgs st) (defBody st) (defScope st) .none kV doc pm an (.ref c) ct), osl⟩ ∧ PySem.W.codeIn K (.ref c) x = true ∧ PySem.W.keepIn K (.ref f) = true ∧ mg x = some (.ref f) ∧
    Binds K (PySem.W.fnOf x x (defArgs st) (defBody st) (defScope st) .none kV doc pm an (.ref c) ct) ps [] ∧ LamX.TabB base mg c P
section
variable {P : Program} {w : World} {K : PySem.W.Frag} {mg : Str → Option Value} {base : Heap}
theorem AtC.ok {x : Str} {st : Stmt} {N ps : List Str} {k : Nat} {sp : Sp} {PA : Addr} (a : AtC K mg base x st ps PA) (S : FnScope N ps (defScope st)) (len : ∀ vs H Q E, sp vs H Q E → vs.length = ps.length)
    (hbody : ∀ (f c : Addr) (A : Around) (outer : List Env) (s : Shared) (H : Hp) (vs : List V) (Q : VK) (E : XK), LamX.TabB base mg c PA → Room k (A.deeper (envOfC x (defScope st) s.heap.objs.size f (.ref c))) → sp vs H Q E →
      ∃ t, PSs (cxOf CX0 P w K mg base N x (defScope st) f (.ref c) A outer s H E).nox (defBody st) t ∧ t { nx := fun _ H' => Q .non H', rt := Q } (L2.start N vs) H) : Def P w K mg base CX0 (k + 1) x ps sp := by
  obtain ⟨f, oc, od, kV, doc, pm, an, c, ct, osl, lk, hcd, kp, m, b, tb⟩ := a.ex
  refine ⟨f, _, ⟨len, ?_⟩, m, kp, b, oc, od, osl, lk⟩
  intro A outer s H args us vs Q E hr e0 hb r hsp
  apply LamX.run_ofS lk hcd S hr e0 hb r (len _ _ _ _ hsp)
  intro hr'
  obtain ⟨t, ht, hq⟩ := hbody f c A outer s H vs Q E tb hr' hsp
  exact ⟨t, ht.nox, hq⟩
theorem AtC.okG {x : Str} {st : Stmt} {N ps : List Str} {k : Nat} {sp : Sp} {PA : Addr} (a : AtC K mg base x st ps PA) (S : FnScope N ps (defScope st)) (len : ∀ vs H Q E, sp vs H Q E → vs.length = ps.length)
    (hbody : ∀ (f c : Addr) (A : Around) (outer : List Env) (s : Shared) (H : Hp) (vs : List V) (Q : VK) (E : XK), LamX.TabB base mg c PA → A.guards = some [] → Room k (A.deeper (envOfC x (defScope st) s.heap.objs.size f (.ref c))) → sp vs H Q E →
      ∃ t, PSs (cxOf CX0 P w K mg base N x (defScope st) f (.ref c) A outer s H E).nox (defBody st) t ∧ t { nx := fun _ H' => Q .non H', rt := Q } (L2.start N vs) H) : DefG P w K mg base (k + 1) x ps sp := by
  obtain ⟨f, oc, od, kV, doc, pm, an, c, ct, osl, lk, hcd, kp, m, b, tb⟩ := a.ex
  refine ⟨f, _, ⟨len, ?_⟩, m, kp, b, oc, od, osl, lk⟩
  intro A outer s H args us vs Q E hgd hr e0 hb r hsp
  apply LamX.run_ofS lk hcd S hr e0 hb r (len _ _ _ _ hsp)
  intro hr'
  obtain ⟨t, ht, hq⟩ := hbody f c A outer s H vs Q E tb hgd hr' hsp
  exact ⟨t, ht.nox, hq⟩
/-- the name of the code objects of the generator in is_days -/
def qG : Str := (envOfC "is_days" (defScope sIsDays) 0 0 .none).qual ++ "<genexpr>"
theorem Tb.of {T : List (Addr × Str)} {PG : Addr} {H : Hp} (m : (PG, qG) ∈ T) (t : Tabs T H) : Tb T PG H := by
  obtain ⟨ps, h1, h2, _⟩ := t _ m
  exact ⟨t, ps, h1, h2⟩
/-- the generator's table has grown -/
theorem Gr.grew {T : List (Addr × Str)} {PG : Addr} {H H' : Hp} (t : Tb T PG H) (mq : (PG, qG) ∈ T) (uq : ∀ p ∈ T, p.1 = PG → p.2 = qG) (h : Grow PG qG H H') : Gr T PG H H' := by
  obtain ⟨g, o⟩ := h
  obtain ⟨ps, e1, _⟩ := t.gen
  refine ⟨fun b u e n => o b u (fun z => n ps (by rw [z, e1] at e; exact (Option.some.inj e).symm)) e, Tb.of mq fun p hp => ?_⟩
  by_cases z : p.1 = PG
  · rw [z, uq p hp z]
    exact g
  · obtain ⟨qs, h1, h2, h3⟩ := t.lam p hp
    refine ⟨qs, o _ _ z h1, h2, fun pos cv hc => ?_⟩
    obtain ⟨c, r1, r2⟩ := h3 pos cv hc
    exact ⟨c, r1, o _ _ (fun y => by rw [y, e1] at r2; cases r2) r2⟩
theorem scIsDays : FnScope ["value", "many"] ["value"] (defScope sIsDays) := ⟨rfl, rfl, rfl, by decide +kernel, rfl, by decide +kernel, by decide +kernel⟩
theorem sAll : bootBuiltins "all" = some (.builtin "all") := by decide +kernel
theorem def_isDays {T : List (Addr × Str)} {PG : Addr} (MD : Mod K mg base) (B : Bl mg) (c7 : ∃ t, mg "MOST_DAYS" = some (.int 7 t)) (c12 : ∃ t, mg "MOST_HOURS" = some (.int 12 t)) (W : Def P w K mg base CX0 2 "is_within" ["value", "low", "high"] (spWithin K))
    (F : AtC K mg base "is_days" sIsDays ["value"] PG) (mq : (PG, qG) ∈ T) (uq : ∀ p ∈ T, p.1 = PG → p.2 = qG) : Def P w K mg base CX0 4 "is_days" ["value"] (spIsDays K T PG) := by
  refine F.ok scIsDays (fun vs H Q E h => ?_) (fun f c A outer s H vs Q E tb hr h => ?_)
  · obtain ⟨x, d, rfl, _⟩ := h
    rfl
  · obtain ⟨x, d, rfl, hx, fl, tg, q⟩ := h
    obtain ⟨t12, m12⟩ := c12
    obtain ⟨t7, m7⟩ := c7
    have TB : GxR.TabB base mg c PG := ⟨tb.code, tb.bm, tb.gP⟩
    refine ⟨_, pss_cons (ps_if (pt_or (po_cons (pt_not (pt_val (pe_callB call_isi (by rfl) B.isi sIns (pa_cons (pv 0) (pa_cons (pe_ty (by rfl) B.tup sTup) pa_nil)))))
          (po_cons (pt_not (pt_chain op_le op_le pe_int (pe_callB call_len_seq (by rfl) B.len sLen (pa_cons (pv 0) pa_nil)) (pe_glob (v := .int 7) (by rfl) m7 ⟨_, rfl⟩))) po_nil)))
        (pss_one (ps_ret pe_bl)) pss_nil)
      (pss_one (ps_ret (pe_allX (own := [("many", 1)]) (g := gName 1) (tt := tYes) hr (by rfl) B.all sAll TB rfl (genN_by (N := ["value", "many"]) (sc := defScope sIsDays) (by decide +kernel)) scIsDays.nd (pi_tup (pv 0))
            (fun _ _ _ _ _ _ _ => pg_name (i := 1) scIsDays.nd rfl (Or.inl rfl)) (fun _ _ _ _ _ _ _ => pts_nil)
            (fun B s H C code fp pn hrB => pe_def W hrB (by rfl) pass0 (pa_cons (pv 1) (pa_cons pe_int (pa_cons (pe_glob (v := .int 12) (by rfl) m12 ⟨_, rfl⟩) pa_nil))))))), ?_⟩
    refine ⟨_, rfl, _, _, _, _, _, rfl, .ty "tuple", tyx_of hx, kit_ty (kit_tuple _), _, rfl, ?_⟩
    have g0 := Gr.refl (T := T) (PG := PG) tg
    cases hT : isT d with
    | false =>
      have e : isDays d = false := by cases d <;> first | rfl | cases hT
      have q1 := q H g0
      rw [e] at q1
      exact q1
    | true =>
      cases hx with
      | tup hs ra =>
        rename_i a xs ds
        have hl := ra.length
        refine ⟨_, rfl, a, _, rfl, .inr hs, _, _, rfl, rfl, _, rfl, ?_⟩
        have q1 := q H g0
        by_cases c1 : (1 : Int) ≤ (xs.length : Nat)
        · rw [if_pos (decide_eq_true c1)]
          refine ⟨_, _, rfl, rfl, _, rfl, ?_⟩
          by_cases c2 : ((xs.length : Nat) : Int) ≤ 7
          · rw [decide_eq_true c2]
            refine ⟨_, rfl, a, rfl, ⟨_, hs⟩, tg.lam _ mq, fun H2 tbb => ?_⟩
            have g2 := Gr.grew tg mq uq tbb
            have q2 := q H2 g2
            have e : isDays (.tuple ds) = ds.all (fun d => within d 1 12) := by
              have d1 : 1 ≤ ds.length := by omega
              have d2 : ds.length ≤ 7 := by omega
              simp [isDays, d1, d2]
            rw [e] at q2
            refine all_tup (xs := xs) (K := K) (fun i H' => H' = H2 ∧ (ds.take i).all (fun d => within d 1 12) = true) ⟨rfl, by simp⟩ (fun i H' _ e => by rw [e.1]; exact sqt_ext g2.ext hs) (fun i x H' Po hi e po => ?_) fun H' e => ?_
            · obtain ⟨rfl, ha⟩ := e
              obtain ⟨d, hd, hx⟩ := rep_at ra hi
              refine ⟨rfl, _, rfl, x, d, 1, 12, rfl, hx.ext g2.ext, ?_⟩
              cases hw : within d 1 12 with
              | true =>
                refine po true H' ⟨rfl, ?_⟩
                rw [List.take_add_one, hd, List.all_append, ha]
                simp [hw]
              | false =>
                refine po false H' ?_
                have z : ds.all (fun d => within d 1 12) = false := by
                  rw [Bool.eq_false_iff]
                  intro z
                  have := List.all_eq_true.mp z d (List.mem_of_getElem? hd)
                  rw [hw] at this
                  cases this
                rw [z] at q2
                exact q2
            · obtain ⟨rfl, ha⟩ := e
              rw [hl, List.take_length] at ha
              rw [ha] at q2
              exact q2
          · rw [decide_eq_false c2]
            have e : isDays (.tuple ds) = false := by
              have d2 : ¬ ds.length ≤ 7 := by omega
              simp [isDays, d2]
            rw [e] at q1
            exact q1
        · rw [if_neg (by rw [decide_eq_false c1]; decide)]
          have e : isDays (.tuple ds) = false := by
            have d2 : ¬ 1 ≤ ds.length := by omega
            simp [isDays, d2]
          rw [e] at q1
          exact ⟨_, rfl, q1⟩
      | _ => cases hT
end
end K0
set_option Elab.async false
set_option linter.all false
set_option maxRecDepth 100000
set_option maxHeartbeats 4000000
/-! P6: the law's numbers: mixed, drawn. -/
namespace K0
open PySem PySem.Spec PyProof.Rows L2 BK LamX
/-- mixed: a number from 0 to below 2147483629 -/
def spMixed : Sp := fun vs H Q _ => ∃ (c k : Int), vs = [.int c, .int k] ∧ 0 ≤ k ∧ k ≤ 1000000 ∧ ∀ r : Int, 0 ≤ r → r < 2147483648 → Q (.int r) H
theorem pos31 : (0 : Int) < 2147483647 := by decide
theorem pos29 : (0 : Int) < 2147483629 := by decide
theorem mod31 (i : Int) : -(2 ^ 64) < i % 2147483647 ∧ i % 2147483647 < 2 ^ 64 := by
  have h0 := Int.emod_nonneg i (show (2147483647 : Int) ≠ 0 by decide)
  have h1 := Int.emod_lt_of_pos i pos31
  constructor <;> omega
section
variable {P : Program} {w : World} {K : PySem.W.Frag} {mg : Str → Option Value} {base : Heap}
theorem scMixed : FnScope ["cell", "k"] ["cell", "k"] (defScope sMixed) := ⟨rfl, rfl, rfl, by decide +kernel, rfl, by decide +kernel, by decide +kernel⟩
theorem def_mixed (B : Bl mg) (F : At K mg "_law_mixed" sMixed ["cell", "k"]) : Def P w K mg base CX0 1 "_law_mixed" ["cell", "k"] spMixed := by
  refine F.ok scMixed (fun vs H Q E h => ?_) (fun f cdv A outer s H vs Q E hr h => ?_)
  · obtain ⟨c, k, rfl, _⟩ := h
    rfl
  · obtain ⟨c, k, rfl, k0, k1, q⟩ := h
    refine ⟨_, pss_cons (ps_set (i := 0) scMixed.nd rfl (Or.inl rfl) (pe_op op_mod (pe_callTy call_int1 (by rfl) B.int sInt (pa_cons (pv 0) pa_nil)) pe_int))
      (pss_one (ps_ret (pe_op op_mod (pe_op op_mul (pe_op op_mod (pe_op op_add (pe_op op_add (pe_op op_mul (pv 0) (pe_op op_add pe_int (pe_op op_mul (pe_op op_mul pe_int (pv 1)) (pv 1)))) (pe_op op_mul pe_int (pv 1))) pe_int) pe_int) pe_int) pe_int))), ?_⟩
    have m0 := Int.emod_nonneg c (show (2147483647 : Int) ≠ 0 by decide)
    have m1 := Int.emod_lt_of_pos c (show (0 : Int) < 2147483647 by decide)
    refine ⟨_, rfl, .inl ⟨c, rfl, _, _, rfl, rfl, pos31, ?_⟩⟩
    refine ⟨_, rfl, _, rfl, _, _, rfl, rfl, .inl ⟨by decide, by decide⟩, _, rfl, _, _, rfl, rfl, .inr ⟨by omega, by omega⟩, _, _, rfl, rfl, _, _, rfl, rfl, .inl ⟨by omega, by omega⟩, _, rfl, _, _, rfl, rfl, .inl ⟨by decide, by decide⟩, _, _, rfl, rfl, _, _, rfl, rfl, _, _, rfl, rfl, pos31, ?_⟩
    refine ⟨_, _, rfl, rfl, .inl (mod31 _), _, _, rfl, rfl, pos29, q _ (Int.emod_nonneg _ (by decide)) ?_⟩
    exact Int.lt_trans (Int.emod_lt_of_pos _ pos29) (by decide)
end
end K0
set_option Elab.async false
set_option linter.all false
set_option maxRecDepth 100000
set_option maxHeartbeats 4000000
/-! P7: the law's draws. -/
namespace K0
open PySem PySem.Spec PyProof.Rows L2 BK LamX
/-- the state's dict -/
def dS (ca la : Addr) (n : Nat) : List (Key × V) := [(.inr "cells", .ref ca), (.inr "lefts", .ref la), (.inr "at", .int n)]
theorem dS_cells (ca la : Addr) (n : Nat) : valV (dS ca la n) (.inr "cells") = some (.ref ca) := rfl
theorem dS_lefts (ca la : Addr) (n : Nat) : valV (dS ca la n) (.inr "lefts") = some (.ref la) := rfl
theorem dS_at (ca la : Addr) (n : Nat) : valV (dS ca la n) (.inr "at") = some (.int n) := rfl
theorem dS_put (ca la : Addr) (n : Nat) (v : Int) : putK (dS ca la n) (.inr "at") (.int v) = [(.inr "cells", .ref ca), (.inr "lefts", .ref la), (.inr "at", .int v)] := rfl
theorem dS_next (ca la : Addr) (n : Nat) : putK (dS ca la n) (.inr "at") (.int ((n : Int) + 1)) = dS ca la (n + 1) := rfl
/-- the state: its dict at st, its lefts at la; n draws were made -/
structure StH (st la ca : Addr) (n : Nat) (H : Hp) : Prop where
  ex : ∃ (cells lefts : List Int), H st = some (.dK (dS ca la n)) ∧ H ca = some (.lst (cells.map V.int)) ∧ H la = some (.lst (lefts.map V.int)) ∧
    lefts.length = cells.length ∧ 0 < cells.length ∧ cells.length ≤ 64 ∧ ca ≠ la
/-- nothing but the state has changed -/
def Sd (st la : Addr) (H H' : Hp) : Prop := ∀ b, b ≠ st → b ≠ la → H' b = H b
def spDraw : Sp := fun vs H Q _ => ∃ (st la ca : Addr) (n : Nat) (limit : Int), vs = [.ref st, .int limit] ∧ StH st la ca n H ∧ n ≤ 100000 ∧ 1 ≤ limit ∧ limit ≤ 1000000 ∧
  ∀ (r : Int) (H' : Hp), 0 ≤ r → r < limit → Sd st la H H' → StH st la ca (n + 1) H' → Q (.int r) H'
theorem hu_of {k : Nat} {A : Around} (hr : Room k A) : A.units + 1 < cLine := by
  have := hr.un
  omega
section
variable {P : Program} {w : World} {K : PySem.W.Frag} {mg : Str → Option Value} {base : Heap}
theorem scDraw : FnScope ["state", "limit", "at", "spot", "left", "mixed"] ["state", "limit"] (defScope sDraw) := ⟨rfl, rfl, rfl, by decide +kernel, rfl, by decide +kernel, by decide +kernel⟩
theorem def_draw (B : Bl mg) (Mx : Def P w K mg base CX0 1 "_law_mixed" ["cell", "k"] spMixed) (F : At K mg "_law_draw" sDraw ["state", "limit"]) : Def P w K mg base CX0 2 "_law_draw" ["state", "limit"] spDraw := by
  refine F.ok scDraw (fun vs H Q E h => ?_) (fun f cdv A outer s H vs Q E hr h => ?_)
  · obtain ⟨st, la, ca, n, limit, rfl, _⟩ := h
    rfl
  · obtain ⟨st, la, ca, n, limit, rfl, ⟨cells, lefts, h1, h2, h3, hl, hp, hz, hc⟩, hn, l1, l2, q⟩ := h
    refine ⟨_, pss_cons (ps_set (i := 2) scDraw.nd rfl (Or.inl rfl) (pe_dget (hu_of hr) (pv 0) pe_str (by intro _ _; rfl)))
      (pss_cons (ps_dput (hu_of hr) (pv 0) pe_str (pe_op op_add (pv 2) pe_int) (by rfl))
      (pss_cons (ps_set (i := 3) scDraw.nd rfl (Or.inl rfl) (pe_op op_mod (pe_callTy call_int1 (by rfl) B.int sInt (pa_cons (pv 2) pa_nil)) (pe_callB call_len_seq (by rfl) B.len sLen (pa_cons (pe_dget (hu_of hr) (pv 0) pe_str (by intro _ _; rfl)) pa_nil))))
      (pss_cons (ps_set (i := 4) scDraw.nd rfl (Or.inl rfl) (pe_ix ix_list (pe_dget (hu_of hr) (pv 0) pe_str (by intro _ _; rfl)) (pv 3) (by intro _ _; rfl)))
      (pss_cons (ps_if (pt_cmpR op_gt (pv 4) pe_int rfl)
        (pss_cons (ps_asg (pe_op op_fdivW (pv 4) (pv 1)) (pg_sub (pe_dget (hu_of hr) (pv 0) pe_str (by intro _ _; rfl)) (pv 3) set_list))
          (pss_one (ps_ret (pe_op op_mod (pe_callTy call_int1 (by rfl) B.int sInt (pa_cons (pv 4) pa_nil)) (pv 1))))) pss_nil)
      (pss_cons (ps_set (i := 5) scDraw.nd rfl (Or.inl rfl) (pe_def Mx hr (by rfl) pass0 (pa_cons (pe_def Mx hr (by rfl) pass0 (pa_cons (pe_ix ix_list (pe_dget (hu_of hr) (pv 0) pe_str (by intro _ _; rfl)) (pv 3) (by intro _ _; rfl)) (pa_cons (pv 2) pa_nil))) (pa_cons (pe_op op_add pe_int (pv 2)) pa_nil))))
      (pss_one (ps_ret (pe_op op_mod (pe_op op_fdivW (pe_callTy call_int1 (by rfl) B.int sInt (pa_cons (pe_op op_add (pe_op op_mul (pv 5) pe_int) (pe_def Mx hr (by rfl) pass0 (pa_cons (pv 5) (pa_cons (pe_op op_add pe_int (pv 2)) pa_nil)))) pa_nil)) pe_int) (pv 1))))))))), ?_⟩
    have nst : ca ≠ st := fun z => by rw [z, h1] at h2; cases h2
    have nlt : la ≠ st := fun z => by rw [z, h1] at h3; cases h3
    have g0 : ∀ {k : Key} {v : V}, valV (dS ca la n) k = some v → DGet H st (kV k) (some v) := fun {k v} e => by
      have := DGet.k (k := k) h1
      rw [e] at this
      exact this
    let H1 : Hp := upd H st (.dK (dS ca la (n + 1)))
    have e1 : H1 st = some (.dK (dS ca la (n + 1))) := upd_same
    have e2 : H1 ca = some (.lst (cells.map V.int)) := by rw [show H1 ca = H ca from upd_ne nst]; exact h2
    have e3 : H1 la = some (.lst (lefts.map V.int)) := by rw [show H1 la = H la from upd_ne nlt]; exact h3
    have p1 : DPut H st (.str "at") (.int ((n : Int) + 1)) H1 := DPut.k (k := .inr "at") (v := .int ((n : Int) + 1)) h1 (by show 3 < sizeLine; decide)
    have g1 : ∀ {k : Key} {v : V}, valV (dS ca la (n + 1)) k = some v → DGet H1 st (kV k) (some v) := fun {k v} e => by
      have := DGet.k (k := k) e1
      rw [e] at this
      exact this
    have sd1 : Sd st la H H1 := fun b b1 b2 => upd_ne b1
    have z1 : (0 : Int) < ((cells.map V.int).length : Nat) := by rw [List.length_map]; omega
    obtain ⟨sp, hs⟩ : ∃ sp : Nat, (n : Int) % ((cells.map V.int).length : Nat) = (sp : Int) := ⟨((n : Int) % ((cells.map V.int).length : Nat)).toNat, by have := Int.emod_nonneg (n : Int) (show ((cells.map V.int).length : Int) ≠ 0 by omega); omega⟩
    have sl : sp < cells.length := by
      have := Int.emod_lt_of_pos (n : Int) z1
      rw [hs, List.length_map] at this
      omega
    have ac : atI (cells.map V.int) (sp : Int) = some (.int cells[sp]) := atI_nat (by simp [sl])
    have al : atI (lefts.map V.int) (sp : Int) = some (.int (lefts[sp]'(by omega))) := atI_nat (by simp [hl, sl])
    generalize hle : lefts[sp]'(by omega) = le at al
    generalize hce : cells[sp] = ce at ac
    have stH1 : StH st la ca (n + 1) H1 := ⟨cells, lefts, e1, e2, e3, hl, hp, hz, hc⟩
    have d0 : 0 < limit := by omega
    have dv : CDivW le limit := wide_div (b := 20) d0 (by omega) (by decide) (by decide)
    refine ⟨_, rfl, st, .int n, rfl, g0 (dS_at ca la n), ?_⟩
    refine ⟨_, rfl, _, _, rfl, rfl, _, rfl, _, _, rfl, p1, ?_⟩
    refine ⟨_, rfl, .inl ⟨_, rfl, _, rfl, st, _, rfl, g1 (dS_cells ca la (n + 1)), ca, _, rfl, .inl (.inl (.inl e2)), _, _, rfl, rfl, z1, ?_⟩⟩
    show gName 3 (V.int ((n : Int) % ((cells.map V.int).length : Nat))) _ _ _
    rw [hs]
    refine ⟨_, rfl, st, _, rfl, g1 (dS_lefts ca la (n + 1)), _, rfl, la, _, _, _, rfl, rfl, .inl (.inl e3), al, ?_⟩
    refine ⟨_, rfl, _, _, rfl, rfl, _, rfl, ?_⟩
    by_cases c0 : 0 < le
    · rw [decide_eq_true c0]
      refine ⟨_, rfl, _, rfl, _, _, rfl, rfl, dv, _, rfl, st, _, rfl, g1 (dS_lefts ca la (n + 1)), _, rfl, la, _, _, sp, rfl, rfl, e3, ?_, ?_⟩
      · show ixN (lefts.map V.int).length (sp : Int) = some sp
        rw [List.length_map]
        unfold ixN
        rw [if_pos (by omega), if_pos (by omega)]
        simp
      · refine ⟨_, rfl, .inl ⟨_, rfl, _, rfl, _, _, rfl, rfl, d0, ?_⟩⟩
        refine q _ _ (Int.emod_nonneg _ (by omega)) (Int.emod_lt_of_pos _ d0) ?_ ?_
        · exact fun b b1 b2 => (upd_ne b2).trans (sd1 b b1 b2)
        · refine ⟨cells, lefts.set sp (le / limit), ?_, ?_, ?_, ?_, hp, hz, hc⟩
          · rw [upd_ne (Ne.symm nlt)]
            exact e1
          · rw [upd_ne hc]
            exact e2
          · rw [upd_same, List.map_set]
          · rw [List.length_set]
            exact hl
    · rw [decide_eq_false c0]
      refine ⟨_, rfl, st, _, rfl, g1 (dS_cells ca la (n + 1)), _, rfl, ca, _, _, _, rfl, rfl, .inl (.inl e2), ac, _, rfl, _, _, rfl, by omega, by omega, fun r1 r10 r11 => ?_⟩
      refine ⟨_, rfl, _, _, rfl, rfl, _, _, rfl, by omega, by omega, fun r2 r20 r21 => ?_⟩
      refine ⟨_, rfl, _, _, rfl, rfl, .inl ⟨by omega, by omega⟩, _, rfl, _, rfl, _, _, rfl, rfl, _, _, rfl, by omega, by omega, fun r3 r30 r31 => ?_⟩
      refine ⟨_, _, rfl, rfl, .inl ⟨_, rfl, _, _, rfl, rfl, ⟨by decide, by decide⟩, _, rfl, _, _, rfl, rfl, d0, ?_⟩⟩
      exact q _ _ (Int.emod_nonneg _ (by omega)) (Int.emod_lt_of_pos _ d0) sd1 stH1
end
end K0
set_option Elab.async false
set_option linter.all false
set_option maxRecDepth 100000
set_option maxHeartbeats 4000000
/-! P8: the law's small helpers: of, like, begin. -/
namespace K0
open PySem PySem.Spec PyProof.Rows L2 BK LamX
mutual
theorem dp_of {K : PySem.W.Frag} {H : Hp} : ∀ {v : V} {d : PyData}, Rep K H v d → Dp K H v d
  | _, _, .non => .non
  | _, _, .bl b => .bl b
  | _, _, .int i => .int i
  | _, _, .str x => .str x
  | _, _, .lst h r => .lst h (dpAll_of r)
  | _, _, .tup h r => .tup h (dpAll_of r)
theorem dpAll_of {K : PySem.W.Frag} {H : Hp} : ∀ {vs : List V} {ds : List PyData}, RepAll K H vs ds → DpAll K H vs ds
  | _, _, .nil => .nil
  | _, _, .cons h r => .cons (dp_of h) (dpAll_of r)
end
/-- what may be shown: its text, its depth -/
structure Shw (d : PyData) (n k : Nat) : Prop where
  fine : Fine d n
  dep : d.depth ≤ k
theorem depAll {k : Nat} : ∀ {ds : List PyData}, (∀ d ∈ ds, d.depth ≤ k) → PyData.depthAll ds ≤ k
  | [], _ => by simp [PyData.depthAll]
  | d :: ds, h => by
    simp only [PyData.depthAll]
    exact Nat.max_le.2 ⟨h d (List.mem_cons_self ..), depAll fun x hx => h x (List.mem_cons_of_mem _ hx)⟩
theorem shw_non : Shw .none 16 0 := ⟨fine_non.mono (by decide), by simp [PyData.depth]⟩
theorem shw_bl (b : Bool) : Shw (.bool b) 16 0 := ⟨(fine_bl b).mono (by decide), by simp [PyData.depth]⟩
theorem shw_int {i : Int} (h : i.natAbs < 10 ^ 10) : Shw (.int i) 16 0 := ⟨(fine_int h).mono (by decide), by simp [PyData.depth]⟩
theorem Shw.mono {d : PyData} {n k m j : Nat} (h : Shw d n k) (e : n ≤ m) (f : k ≤ j) : Shw d m j := ⟨h.fine.mono e, Nat.le_trans h.dep f⟩
theorem shw_list {ds : List PyData} {m n k : Nat} (h : ∀ d ∈ ds, Shw d m k) (e : ds.length * m + ds.length * 2 + 4 + m ≤ n) : Shw (.list ds) n (k + 1) := by
  refine ⟨fine_list (fun d hd => (h d hd).fine) e, ?_⟩
  simp only [PyData.depth]
  have := depAll fun d hd => (h d hd).dep
  omega
theorem shw_tup {ds : List PyData} {m n k : Nat} (h : ∀ d ∈ ds, Shw d m k) (e : ds.length * m + ds.length * 2 + 4 + m ≤ n) : Shw (.tuple ds) n (k + 1) := by
  refine ⟨fine_tup (fun d hd => (h d hd).fine) e, ?_⟩
  simp only [PyData.depth]
  have := depAll fun d hd => (h d hd).dep
  omega
/-- of one of some things -/
def spOf : Sp := fun vs H Q _ => ∃ (st la ca sa : Addr) (n : Nat) (xs : List V), vs = [.ref st, .ref sa] ∧ StH st la ca n H ∧ n ≤ 100000 ∧ H sa = some (.lst xs) ∧ sa ≠ la ∧ 1 ≤ xs.length ∧ xs.length ≤ 100000 ∧
  ∀ (x : V) (H' : Hp), x ∈ xs → Sd st la H H' → StH st la ca (n + 1) H' → Q x H'
def spLike (K : PySem.W.Frag) : Sp := fun vs H Q _ => ∃ (a b : Addr) (d : PyData) (n k : Nat), vs = [.ref a, .ref b] ∧ Rep K H (.ref a) d ∧ Rep K H (.ref b) d ∧ Shw d n k ∧ n ≤ 16777216 ∧ k ≤ 100 ∧ Q (.bl true) H
def spBegin (K : PySem.W.Frag) : Sp := fun vs H Q _ => ∃ (a : Addr) (ns : List Int), vs = [.ref a] ∧ SqL K H a (ns.map V.int) ∧ ns.length ≤ 63 ∧ ∀ (st la ca : Addr) (H' : Hp), Same H H' → H st = none → H la = none → StH st la ca 0 H' → Q (.ref st) H'
theorem canLay_ints : ∀ ns : List Int, PyData.canLayAll0 (ns.map .int) = true
  | [] => by simp [PyData.canLayAll0]
  | n :: ns => by simp [PyData.canLayAll0, PyData.canLay0, canLay_ints ns]
theorem dep_ints : ∀ ns : List Int, PyData.depthAll (ns.map .int) = 0
  | [] => by simp [PyData.depthAll]
  | n :: ns => by simp [PyData.depthAll, PyData.depth, dep_ints ns]
theorem shaped_ints (ns : List Int) : SeqAt.shaped (.list (ns.map .int)) = true := by
  simp [SeqAt.shaped, PyData.canLay0, canLay_ints, PyData.depth, dep_ints]
section
variable {P : Program} {w : World} {K : PySem.W.Frag} {mg : Str → Option Value} {base : Heap}
theorem scOf : FnScope ["state", "some"] ["state", "some"] (defScope sOf) := ⟨rfl, rfl, rfl, by decide +kernel, rfl, by decide +kernel, by decide +kernel⟩
theorem def_of (B : Bl mg) (Dr : Def P w K mg base CX0 2 "_law_draw" ["state", "limit"] spDraw) (F : At K mg "_law_of" sOf ["state", "some"]) : Def P w K mg base CX0 3 "_law_of" ["state", "some"] spOf := by
  refine F.ok scOf (fun vs H Q E h => ?_) (fun f cdv A outer s H vs Q E hr h => ?_)
  · obtain ⟨st, la, ca, sa, n, xs, rfl, _⟩ := h
    rfl
  · obtain ⟨st, la, ca, sa, n, xs, rfl, hst, hn, hs, ne, l1, l2, q⟩ := h
    refine ⟨_, pss_one (ps_ret (pe_ix ix_list (pv 1) (pe_def Dr hr (by rfl) pass0 (pa_cons (pv 0) (pa_cons (pe_callB call_len_seq (by rfl) B.len sLen (pa_cons (pv 1) pa_nil)) pa_nil))) (by intro _ _; rfl))), ?_⟩
    have nst : sa ≠ st := fun z => by
      obtain ⟨_, _, h1, _⟩ := hst.ex
      rw [z, h1] at hs
      cases hs
    refine ⟨_, rfl, _, rfl, _, rfl, sa, _, rfl, .inl (SqL.of hs), st, la, ca, n, _, rfl, hst, hn, by omega, by omega, fun r H' r0 r1 sd s1 => ?_⟩
    obtain ⟨j, rfl⟩ : ∃ j : Nat, r = (j : Int) := ⟨r.toNat, by omega⟩
    have jl : j < xs.length := by omega
    refine ⟨sa, xs, _, xs[j], rfl, rfl, SqL.of ((sd sa nst ne).trans hs), atI_nat (by simp [jl]), q _ H' (List.getElem_mem jl) sd s1⟩
theorem scLike : FnScope ["got", "due"] ["got", "due"] (defScope sLike) := ⟨rfl, rfl, rfl, by decide +kernel, rfl, by decide +kernel, by decide +kernel⟩
theorem hu_rep {k : Nat} {A : Around} (hr : Room k A) : A.units + 110 < cLine := by
  have := hr.un
  omega
theorem hu_64 {k : Nat} {A : Around} (hr : Room k A) : A.units + 64 < cLine := by
  have := hr.un
  omega
theorem sRepr : bootBuiltins "repr" = some (.builtin "repr") := by decide +kernel
theorem def_like (B : Bl mg) (F : At K mg "_law_like" sLike ["got", "due"]) : DefG P w K mg base 1 "_law_like" ["got", "due"] (spLike K) := by
  refine F.okG scLike (fun vs H Q E h => ?_) (fun f cdv A outer s H vs Q E hg hr h => ?_)
  · obtain ⟨a, b, d, n, k, rfl, _⟩ := h
    rfl
  · obtain ⟨a, b, d, n, k, rfl, ha, hb, sh, hn, hk, q⟩ := h
    have un := hu_rep hr
    refine ⟨_, pss_one (ps_ret (pe_cmpR op_eq (pe_callB (call_repr hg un) (by rfl) B.rep sRepr (pa_cons (pv 0) pa_nil)) (pe_callB (call_repr hg un) (by rfl) B.rep sRepr (pa_cons (pv 1) pa_nil)) (nomark _))), ?_⟩
    have dk : d.depth ≤ 100 := Nat.le_trans sh.dep hk
    refine ⟨_, rfl, a, d, n, rfl, ha, sh.fine, hn, dk, _, rfl, b, d, n, rfl, hb, sh.fine, hn, dk, rfl, ?_⟩
    rw [decide_eq_true rfl]
    exact q
/-- list(script) if script != [] else [0] -/
theorem begin_read {σ : L2.St} {H : Hp} {a : Addr} {ns : List Int} {Q : VK} (h0 : σ[0]? = some (some (V.ref a))) (ha : SqL K H a (ns.map V.int)) (hn : ns.length ≤ 63)
    (h : ∀ (l : Addr) (H1 : Hp) (cells : List Int), Same H H1 → H1 l = some (.lst (cells.map V.int)) → 0 < cells.length → cells.length ≤ 64 → Q (.ref l) H1) :
    tIf (tTest (tOp (rNeD K) (tVar 0) (tLst tNil))) (tCB (fun xs H Q => ∃ p ys, xs = [.ref p] ∧ (SqL K H p ys ∨ SqT K H p ys) ∧ ∀ l, H l = none → Q (.ref l) (upd H l (.lst ys))) (tCons (tVar 0) tNil)) (tLst (tCons (tC (.int 0)) tNil)) σ H Q := by
  refine ⟨_, h0, Nat.zero_le _, fun p hp => ?_⟩
  have s0 : Same H (upd H p (.lst [])) := same_new (Same.refl H) hp
  have hs := sql_same s0 ha
  refine ⟨.list (ns.map .int), .list [], .lst hs (dpAll_of (RepAll.ints ns)), .lst (SqL.of upd_same) .nil, shaped_ints ns, by decide +kernel, _, rfl, ?_⟩
  cases ns with
  | nil =>
    refine ⟨by rw [sizeLine_eq]; simp, fun q hq => h q _ [0] (same_new s0 hq) upd_same (by decide) (by decide)⟩
  | cons n ns =>
    refine ⟨_, h0, a, _, rfl, .inl hs, fun l hl => h l _ (n :: ns) (same_new s0 hl) upd_same (by simp) (by simp at hn ⊢; omega)⟩
theorem scBegin : FnScope ["script", "cells_so", "cell"] ["script"] (defScope sBegin) := ⟨rfl, rfl, rfl, by decide +kernel, rfl, by decide +kernel, by decide +kernel⟩
theorem sList : bootBuiltins "list" = some (.type "list") := by decide +kernel
theorem def_begin (B : Bl mg) (F : At K mg "_law_begin" sBegin ["script"]) : Def P w K mg base CX0 1 "_law_begin" ["script"] (spBegin K) := by
  refine F.ok scBegin (fun vs H Q E h => ?_) (fun f cdv A outer s H vs Q E hr h => ?_)
  · obtain ⟨a, ns, rfl, _⟩ := h
    rfl
  · obtain ⟨a, ns, rfl, ha, hn, q⟩ := h
    refine ⟨_, pss_cons (ps_set (i := 1) scBegin.nd rfl (Or.inl rfl) (pe_ifExp (pt_cmpR (op_neD (hu_64 hr)) (pv 0) (pe_lst pa_nil) (nomark _)) (pe_callTy call_list_of (by rfl) B.lst sList (pa_cons (pv 0) pa_nil)) (pe_lst (pa_cons pe_int pa_nil))))
      (pss_one (ps_ret (pe_disp (pps_cons pe_str (pv 1) (pps_cons pe_str
        (pe_lc (own := [("cell", 2)]) (g := gName 2) (tt := tYes) rfl scBegin.nd (pi_list (pv 1)) (blkOk_by (N := ["script", "cells_so", "cell"]) (sc := defScope sBegin) (by decide +kernel)) (fun _ _ _ _ _ => pg_name (i := 2) scBegin.nd rfl (Or.inl rfl)) (fun _ _ _ _ _ => pts_nil)
          (fun _ _ _ _ _ => pe_ifExp (pt_cmpR op_ge (pv 2) (pe_op op_pow pe_int pe_int) rfl) (pv 2) pe_int))
        (pps_cons pe_str pe_int pps_nil))) rfl rfl (by decide) (by decide)))), ?_⟩
    refine begin_read (K := K) rfl ha hn fun l H1 cells s1 hl1 c0 c1 => ?_
    refine fun p hp => ⟨_, rfl, _, rfl, l, rfl, ⟨_, SqL.of (by rw [upd_ne (ne_of_none hl1 hp)]; exact hl1)⟩, fun D hD => ?_⟩
    have np : D ≠ p := fun z => by rw [z, upd_same] at hD; cases hD
    have nl : D ≠ l := fun z => by rw [z, upd_ne (ne_of_none hl1 hp), hl1] at hD; cases hD
    have npl : p ≠ l := fun z => by rw [z, hl1] at hp; cases hp
    let lf : List Int := cells.map fun c => if c ≥ 10 ^ 18 then c else 0
    refine lc_list (K := K) (xs := cells.map V.int) (fun k H2 => (∀ b, b ≠ D → H2 b = upd H1 p (.dK []) b) ∧ H2 D = some (.lst ((lf.take k).map V.int))) ?_ ?_ ?_ ?_
    · exact ⟨fun b hb => upd_ne hb, upd_same⟩
    · rintro k H2 hk ⟨s2, h2⟩
      refine SqL.of ?_
      rw [s2 l (Ne.symm nl), upd_ne (Ne.symm npl)]
      exact hl1
    · rintro k x H2 hx ⟨s2, h2⟩
      obtain ⟨c, hc, rfl⟩ : ∃ c, cells[k]? = some c ∧ x = V.int c := by
        rw [List.getElem?_map] at hx
        cases e : cells[k]? with
        | none => rw [e] at hx; cases hx
        | some u => rw [e] at hx; exact ⟨u, rfl, (Option.some.inj hx).symm⟩
      have kl : k < cells.length := (List.getElem?_eq_some_iff.mp hc).1
      have lk : lf[k]? = some (if c ≥ 10 ^ 18 then c else 0) := by simp only [lf, List.getElem?_map, hc, Option.map_some]
      have next : ∀ v : Int, v = (if c ≥ 10 ^ 18 then c else 0) → ∃ acc, H2 D = some (.lst acc) ∧ acc.length < sizeLine ∧ ((∀ b, b ≠ D → upd H2 D (.lst (acc ++ [V.int v])) b = upd H1 p (.dK []) b) ∧ upd H2 D (.lst (acc ++ [V.int v])) D = some (.lst ((lf.take (k + 1)).map V.int))) := by
        rintro v rfl
        refine ⟨_, h2, by rw [sizeLine_eq, List.length_map, List.length_take]; omega, fun b hb => by rw [upd_ne hb]; exact s2 b hb, ?_⟩
        rw [upd_same, List.take_add_one, lk, List.map_append]
        rfl
      refine ⟨rfl, yes ?_⟩
      rw [if_pos rfl]
      refine ⟨_, rfl, _, _, rfl, rfl, ⟨by decide, by decide, by decide⟩, _, _, rfl, rfl, _, rfl, ?_⟩
      by_cases g : (10 : Int) ^ 18 ≤ c
      · rw [decide_eq_true (show (10 : Int) ^ (18 : Int).toNat ≤ c from g)]
        exact ⟨_, rfl, next c (if_pos g).symm⟩
      · rw [decide_eq_false (show ¬ (10 : Int) ^ (18 : Int).toNat ≤ c from g)]
        exact next 0 (if_neg g).symm
    · rintro H2 ⟨s2, h2⟩
      have fin : lf.take (cells.map V.int).length = lf := by
        rw [List.length_map]
        exact List.take_of_length_le (by simp [lf])
      rw [fin] at h2
      refine ⟨?_, [(.inr "cells", .ref l), (.inr "lefts", .ref D), (.inr "at", .int 0)], rfl, (by show 3 ≤ 15; decide), ?_⟩
      · rw [s2 p (Ne.symm np)]
        exact upd_same
      · refine q p D l _ ?_ ?_ ?_ ?_
        · intro b o e
          have e1 := s1 b o e
          have b1 : b ≠ p := fun z => by rw [z, hp] at e1; cases e1
          have b2 : b ≠ D := fun z => by rw [z] at e1 b1; rw [upd_ne b1, e1] at hD; cases hD
          rw [upd_ne b1, s2 b b2, upd_ne b1]
          exact e1
        · exact s1.free hp
        · rw [upd_ne np] at hD
          exact s1.free hD
        · refine ⟨cells, lf, upd_same, ?_, ?_, by simp [lf], c0, c1, Ne.symm nl⟩
          · rw [upd_ne (Ne.symm npl), s2 l (Ne.symm nl), upd_ne (Ne.symm npl)]
            exact hl1
          · rw [upd_ne np]
            exact h2
end
end K0
set_option Elab.async false
set_option linter.all false
set_option maxRecDepth 100000
set_option maxHeartbeats 4000000
/-! P9: the law's count of the hours' days. -/
namespace K0
open PySem PySem.Spec PyProof.Rows L2 BK LamX
/-- the days of the hours of the first k days -/
def lisK (ns : List Int) : Nat → List Int
  | 0 => []
  | k + 1 => lisK ns k ++ List.replicate (ns[k]?.getD 0).toNat (k : Int)
def lis (ns : List Int) : List Int := lisK ns ns.length
theorem lisK_len {ns : List Int} (ha : ∀ n ∈ ns, 1 ≤ n ∧ n ≤ 12) : ∀ {k : Nat}, k ≤ ns.length → ((lisK ns k).length : Int) = ahead ns k
  | 0, _ => by simp [lisK, ahead]
  | k + 1, h => by
    have hk : k < ns.length := by omega
    have ih := lisK_len ha (k := k) (by omega)
    have e := ahead_succ (ns := ns) (j := k) (n := ns[k]) (by simp [hk])
    have h3 := ha ns[k] (List.getElem_mem hk)
    simp only [lisK, List.length_append, List.length_replicate, List.getElem?_eq_getElem hk, Option.getD_some]
    omega
theorem lis_len {ns : List Int} (h : OkN ns) : ((lis ns).length : Int) = ns.sum := by
  unfold lis
  rw [lisK_len h.all (Nat.le_refl _), ahead_all]
/-- the h-th hour's day -/
theorem lisK_get {ns : List Int} (ha : ∀ n ∈ ns, 1 ≤ n ∧ n ≤ 12) : ∀ {k : Nat} {h : Nat}, k ≤ ns.length → (h : Int) < ahead ns k → ∃ j, j < k ∧ (lisK ns k)[h]? = some (j : Int) ∧ ahead ns j ≤ (h : Int) ∧ (h : Int) < ahead ns (j + 1)
  | 0, h, _, hh => by simp [ahead] at hh; omega
  | k + 1, h, hk, hh => by
    have hk' : k < ns.length := by omega
    have e := ahead_succ (ns := ns) (j := k) (n := ns[k]) (by simp [hk'])
    have hl := lisK_len ha (k := k) (by omega)
    have h3 := ha ns[k] (List.getElem_mem hk')
    by_cases c : (h : Int) < ahead ns k
    · obtain ⟨j, h1, h2, h4⟩ := lisK_get ha (k := k) (h := h) (by omega) c
      refine ⟨j, by omega, ?_, h4⟩
      simp only [lisK]
      rw [List.getElem?_append_left (by omega)]
      exact h2
    · refine ⟨k, by omega, ?_, by omega, by omega⟩
      simp only [lisK, List.getElem?_eq_getElem hk', Option.getD_some]
      rw [List.getElem?_append_right (by omega), List.getElem?_replicate, if_pos (by omega)]
def spListed (K : PySem.W.Frag) : Sp := fun vs H Q _ => ∃ (a : Addr) (ns : List Int), vs = [.ref a] ∧ SqT K H a (ns.map V.int) ∧ OkN ns ∧ ∀ (p : Addr) (H' : Hp), Same H H' → H p = none → H' p = some (.lst ((lis ns).map V.int)) → Q (.ref p) H'
theorem rep_flat {v : V} : ∀ n : Nat, (List.replicate n [v]).flatten = List.replicate n v
  | 0 => rfl
  | n + 1 => by rw [List.replicate_succ, List.flatten_cons, rep_flat n, List.replicate_succ]; rfl
section
variable {P : Program} {w : World} {K : PySem.W.Frag} {mg : Str → Option Value} {base : Heap}
theorem scListed : FnScope ["days_so", "found", "spot", "size"] ["days_so"] (defScope sListed) := ⟨rfl, rfl, rfl, by decide +kernel, rfl, by decide +kernel, by decide +kernel⟩
theorem def_listed (B : Bl mg) (F : At K mg "_law_listed" sListed ["days_so"]) : Def P w K mg base CX0 1 "_law_listed" ["days_so"] (spListed K) := by
  refine F.ok scListed (fun vs H Q E h => ?_) (fun f cdv A outer s H vs Q E hr h => ?_)
  · obtain ⟨a, ns, rfl, _⟩ := h
    rfl
  · obtain ⟨a, ns, rfl, ha, ok, q⟩ := h
    refine ⟨_, pss_cons (ps_set (i := 1) scListed.nd rfl (Or.inl rfl) (pe_lst pa_nil))
      (pss_cons (ps_for PassesOwn.never rfl (pi_enumT (by rfl) B.enu (pa_cons (pv 0) pa_nil)) (pg_tup rfl (pgs_cons (pg_name (i := 2) scListed.nd rfl (Or.inl rfl)) (pgs_cons (pg_name (i := 3) scListed.nd rfl (Or.inl rfl)) pgs_nil)))
        (pss_one (ps_set (i := 1) scListed.nd rfl (Or.inl rfl) (pe_op op_cat (pv 1) (pe_op op_rep (pe_lst (pa_cons (pv 2) pa_nil)) (pv 3))))))
      (pss_one (ps_ret (pv 1)))), ?_⟩
    refine ⟨Nat.zero_le _, fun p hp => ?_⟩
    have s0 : Same H (upd H p (.lst [])) := same_new (Same.refl H) hp
    refine ⟨_, rfl, a, _, rfl, sqt_same s0 ha, for_enumT (K := K) (a := a) (xs := ns.map V.int) (fun i σ H' => ∃ (l : Addr) (x y : Option V), Same H H' ∧ H l = none ∧ H' l = some (.lst ((lisK ns i).map V.int)) ∧ σ = [some (.ref a), some (.ref l), x, y]) ?_ ?_ ?_ ?_⟩
    · exact ⟨p, none, none, s0, hp, upd_same, rfl⟩
    · rintro i σ H' _ ⟨_, _, _, s1, _⟩
      exact sqt_same s1 ha
    · rintro i x σ H' T hx ⟨l, y1, y2, s1, nl, hl, rfl⟩ hT
      obtain ⟨n, hn, rfl⟩ : ∃ n, ns[i]? = some n ∧ x = V.int n := by
        rw [List.getElem?_map] at hx
        cases e : ns[i]? with
        | none => rw [e] at hx; cases hx
        | some u => rw [e] at hx; exact ⟨u, rfl, (Option.some.inj hx).symm⟩
      have il : i < ns.length := (List.getElem?_eq_some_iff.mp hn).1
      have n0 := ok.all n (List.mem_of_getElem? hn)
      have b1 := lisK_len ok.all (k := i) (by omega)
      have b2 := (sum_bound ok i).2
      refine ⟨T, _, rfl, .inl (.inl upd_same), rfl, _, _, rfl, _, _, rfl, rfl, ?_⟩
      have s2 : Same H (upd H' T (.tup [.int (i : Nat), .int n])) := same_new s1 hT
      have nlT : l ≠ T := fun z => by rw [z, hT] at hl; cases hl
      refine ⟨_, rfl, _, rfl, by rw [sizeLine_eq]; simp, fun p2 hp2 => ?_⟩
      have hl2 : upd H' T (.tup [.int (i : Nat), .int n]) l = some (.lst ((lisK ns i).map V.int)) := by rw [upd_ne nlT]; exact hl
      have nl2 : l ≠ p2 := fun z => by rw [z, hp2] at hl2; cases hl2
      refine ⟨_, rfl, p2, n, _, rfl, rfl, upd_same, by omega, by omega, by rw [sizeLine_eq]; simp; omega, fun p3 hp3 => ?_⟩
      have hl3 : upd (upd H' T (.tup [.int (i : Nat), .int n])) p2 (.lst [.int (i : Nat)]) l = some (.lst ((lisK ns i).map V.int)) := by rw [upd_ne nl2]; exact hl2
      have nl3 : l ≠ p3 := fun z => by rw [z, hp3] at hl3; cases hl3
      have s3 := same_new (o := .lst [.int (i : Nat)]) s2 hp2
      have s4 := same_new (o := .lst (List.replicate n.toNat [V.int (i : Nat)]).flatten) s3 hp3
      refine ⟨l, p3, _, _, rfl, rfl, by rw [upd_ne nl3]; exact hl3, upd_same, by rw [sizeLine_eq]; simp; omega, fun p4 hp4 => ?_⟩
      refine ⟨p4, _, _, same_new s4 hp4, s4.free hp4, ?_, rfl⟩
      rw [upd_same]
      simp only [lisK, hn, Option.getD_some, List.map_append, List.map_replicate, Option.some.injEq, HO.lst.injEq]
      rw [rep_flat]
    · rintro σ H' ⟨l, y1, y2, s1, nl, hl, rfl⟩
      rw [List.length_map] at hl
      exact ⟨_, rfl, q l H' s1 nl hl⟩
end
end K0
set_option Elab.async false
set_option linter.all false
set_option maxRecDepth 100000
set_option maxHeartbeats 4000000
/-! KitM: _law_heard(lambda: ..): what comes out as data. -/
namespace K0
open PySem PySem.Spec PyProof.Rows L2 BK LamX
theorem passN {X : Cx} : Passes (L2.CX X.prog X.w) X E0 := fun _ _ _ _ _ _ _ h => by
  obtain ⟨_, _, _, _, _, _, _, _, _, _, _, _, z⟩ := h
  exact z.elim
section
variable {X : Cx} {D S M N HE : Addr}
theorem pe_heard (ET : ErrT X.K X.mg D S M N HE) (F : At X.K X.mg "_law_heard" sHeard ["call"]) {T : List (Addr × Str)} {c P : Addr} {k : Nat} {params : Arguments} {body : Expr} {scope : Scope} {t : XK → TE} {p lpos pos : Pos} (hg : Gl X "_law_heard")
    (TB : LamX.TabB X.base X.mg c P) (hcode : X.env.code = .ref c) (hmT : (P, X.env.qual ++ "<lambda>") ∈ T) (hu : ∀ p ∈ T, p.1 = P → p.2 = X.env.qual ++ "<lambda>") (hr : Room (k + 2) X.A) (L : LamS X.env.scope scope) (hdef : defaultsOf params X.env = ([], []))
    (hbind : ∀ (q : Str) (cl : List (Str × Addr)) (pm cv ctv : Value), bindArgs (PySem.W.kla_fn "<lambda>" q params body scope cl pm cv ctv) ⟨[], []⟩ = pure [])
    (hbody : ∀ (A : Around) (outer : List Env) (s : Shared) (H : Hp) (E : XK) (f c' : Addr), Room k (A.deeper (lamEnv X scope s.heap.objs.size f c')) → PE (lamCx X A outer s H E scope f c') body (t E)) :
    PE X (.Call (.Name "_law_heard" p) [.Lambda params body scope lpos] [] pos) (tLam T (THeard D S M N) t) := by
  obtain ⟨f, fd, Fn, m, b⟩ := F.ex
  obtain ⟨oc, od, kV, doc, pm, an, cdv, ct, osl, rfl, lk, hcd⟩ := Fn.ex
  exact pe_lamcall (Ng := ["call", "told", "error_so"]) hg m Fn.kp lk hcd b scHeard rfl (.inl (by rfl)) (heard_gives ET) TB hcode hmT hu hr L hdef hbind hbody
end
end K0
set_option Elab.async false
set_option linter.all false
set_option maxRecDepth 100000
set_option maxHeartbeats 4000000
/-! P10: the law's hours_right. -/
namespace K0
open PySem PySem.Spec PyProof.Rows L2 BK LamX
/-! ### readings that recur -/
theorem within_yes {i lo hi : Int} (h0 : lo ≤ i) (h1 : i ≤ hi) : within (.int i) lo hi = true := by simp [within, h0, h1]
theorem DaysIn.of {K : PySem.W.Frag} {T : List (Addr × Str)} {PG D a : Addr} {ns : List Int} {H : Hp} {E : XK} {C : List Int → Prop} (ha : SqT K H a (ns.map V.int)) (ok : OkN ns) (tb : Tb T PG H) (c : C ns) : DaysIn K T PG D (.ref a) (.tuple (ns.map .int)) H E C where
  rep := .tup ha (.ints ns)
  fl := flat_ints ns
  tb := tb
  no := fun z => by rw [isDays_of ok] at z; cases z
  yes := fun ms e _ => by
    have es : ns = ms := (List.map_inj_right (fun _ _ z => PyData.int.inj z)).mp (PyData.tuple.inj e)
    exact es ▸ c
theorem Gr.mut {T : List (Addr × Str)} {PG : Addr} {H H' : Hp} {p : Addr} {xs : List V} {o : HO} (g : Gr T PG H H') (h : H p = none) (h' : H' p = some (.lst xs)) : Gr T PG H (upd H' p o) :=
  ⟨ext_mut g.ext h, tb_mut h' (fun ps z => by cases z) (fun q z => by unfold CodeO at z; cases z) g.tb⟩
theorem Gr.sqt {K : PySem.W.Frag} {T : List (Addr × Str)} {PG : Addr} {H H' : Hp} {a : Addr} {xs : List V} (g : Gr T PG H H') (h : SqT K H a xs) : SqT K H' a xs := sqt_ext g.ext h
theorem Gr.lst {T : List (Addr × Str)} {PG : Addr} {H H' : Hp} {a : Addr} {xs : List V} (g : Gr T PG H H') (h : H a = some (.lst xs)) : H' a = some (.lst xs) := g.ext _ _ h fun ps z => by cases z
theorem Gr.tup {T : List (Addr × Str)} {PG : Addr} {H H' : Hp} {a : Addr} {xs : List V} (g : Gr T PG H H') (h : H a = some (.tup xs)) : H' a = some (.tup xs) := g.ext _ _ h fun ps z => by cases z
mutual
def noL : PyData → Bool
  | .list _ => false
  | .tuple ds => noLs ds
  | _ => true
def noLs : List PyData → Bool
  | [] => true
  | d :: ds => noL d && noLs ds
end
theorem noLs_ints : ∀ ns : List Int, noLs (ns.map .int) = true
  | [] => by simp [noLs]
  | n :: ns => by simp [noLs, noL, noLs_ints ns]
theorem noLs_tups (f : Nat → List Int) : ∀ ks : List Nat, noLs (ks.map fun j => .tuple ((f j).map .int)) = true
  | [] => by simp [noLs]
  | k :: ks => by simp [noLs, noL, noLs_ints, noLs_tups f ks]
theorem sqt_mut {K : PySem.W.Frag} {H : Hp} {p a : Addr} {ys zs : List V} {o : HO} (h : H p = some (.lst ys)) (s : SqT K H a zs) : SqT K (upd H p o) a zs := by
  rcases s with s | s
  · refine Or.inl ?_
    rcases s with s | ⟨u, s⟩
    · refine Or.inl ?_
      rw [upd_ne (fun z => by rw [z, h] at s; cases s)]
      exact s
    · refine Or.inr ⟨u, ?_⟩
      rw [upd_ne (fun z => by rw [z, h] at s; cases s)]
      exact s
  · exact Or.inr s
mutual
theorem rep_mut {K : PySem.W.Frag} {H : Hp} {p : Addr} {ys : List V} {o : HO} (h : H p = some (.lst ys)) : ∀ {v : V} {d : PyData}, Rep K H v d → noL d = true → Rep K (upd H p o) v d
  | _, _, .non, _ => .non
  | _, _, .bl b, _ => .bl b
  | _, _, .int i, _ => .int i
  | _, _, .str x, _ => .str x
  | _, _, .lst _ _, n => by simp [noL] at n
  | _, _, .tup s r, n => .tup (sqt_mut h s) (repAll_mut h r (by simpa [noL] using n))
theorem repAll_mut {K : PySem.W.Frag} {H : Hp} {p : Addr} {ys : List V} {o : HO} (h : H p = some (.lst ys)) : ∀ {vs : List V} {ds : List PyData}, RepAll K H vs ds → noLs ds = true → RepAll K (upd H p o) vs ds
  | _, _, .nil, _ => .nil
  | _, _, .cons a r, n => by
    simp only [noLs, Bool.and_eq_true] at n
    exact .cons (rep_mut h a n.1) (repAll_mut h r n.2)
end
theorem shw_ints {ns : List Int} {n : Nat} (h : ∀ i ∈ ns, i.natAbs < 10 ^ 10) (e : ns.length * 18 + 20 ≤ n) : Shw (.list (ns.map .int)) n 1 := by
  refine shw_list (m := 16) (k := 0) (fun d hd => ?_) (by rw [List.length_map]; omega)
  obtain ⟨i, hi, rfl⟩ := List.mem_map.mp hd
  exact shw_int (h i hi)
theorem shw_intsT {ns : List Int} {n : Nat} (h : ∀ i ∈ ns, i.natAbs < 10 ^ 10) (e : ns.length * 18 + 20 ≤ n) : Shw (.tuple (ns.map .int)) n 1 := by
  refine shw_tup (m := 16) (k := 0) (fun d hd => ?_) (by rw [List.length_map]; omega)
  obtain ⟨i, hi, rfl⟩ := List.mem_map.mp hd
  exact shw_int (h i hi)
/-- a list comprehension over enumerate of a list -/
theorem lc_enum {K : PySem.W.Frag} {a : Addr} {xs : List V} {g : TG} {tt : TT} {te : TE} {vs : List Nat} {σ : L2.St} {H1 : Hp} {D : Addr} {Qd : Hp → Prop} (Pv : Nat → Hp → Prop) (h0 : Pv 0 (upd H1 D (.lst []))) (hl : ∀ i H, i ≤ xs.length → Pv i H → SqL K H a xs)
    (hs : ∀ i x H T, xs[i]? = some x → Pv i H → H T = none → g (.ref T) (wipe σ vs) (upd H T (.tup [.int (i : Nat), x])) fun σ2 H2 => wipe σ2 vs = wipe σ vs ∧ tt σ2 H2 fun b H3 =>
      if b = true then te σ2 H3 fun y H4 => ∃ acc, H4 D = some (.lst acc) ∧ acc.length < sizeLine ∧ Pv (i + 1) (upd H4 D (.lst (acc ++ [y]))) else Pv (i + 1) H3) (hd : ∀ H, Pv xs.length H → Qd H) :
    ∃ W : Nat → Nat → Hp → Prop, (∃ m, W 0 m (upd H1 D (.lst []))) ∧ ∀ i m H, W i m H →
      ((Ite K a).stop i H ∧ Qd H) ∨ ((Ite K a).go i H ∧ ∃ Nx : Hp → Prop, (∀ H', Nx H' → ∃ m', m' < m ∧ W (i + 1) m' H') ∧ ∀ x H', (Ite K a).yld i H x H' → g x (wipe σ vs) H' fun σ2 H2 => wipe σ2 vs = wipe σ vs ∧ tt σ2 H2 fun b H3 =>
        if b = true then te σ2 H3 fun y H4 => ∃ acc, H4 D = some (.lst acc) ∧ acc.length < sizeLine ∧ Nx (upd H4 D (.lst (acc ++ [y]))) else Nx H3) := by
  refine ⟨fun i m H => i ≤ xs.length ∧ m = xs.length - i ∧ Pv i H, ⟨_, Nat.zero_le _, rfl, h0⟩, ?_⟩
  rintro i m H ⟨le, rfl, pv⟩
  have hq := hl i H le pv
  by_cases e : i = xs.length
  · subst e
    exact .inl ⟨⟨xs, hq, Nat.le_refl _⟩, hd H pv⟩
  · have lt : i < xs.length := by omega
    refine .inr ⟨⟨xs, xs[i], hq, by simp [lt]⟩, Pv (i + 1), fun H' h => ⟨_, by omega, by omega, rfl, h⟩, ?_⟩
    rintro x H' ⟨T, y, rfl, hT, rfl, hy⟩
    exact hs i y H T (hy xs hq) pv hT
/-- the h-th hour is of the day that the program tells -/
theorem lis_get {ns : List Int} (ok : OkN ns) {h : Nat} (hh : h < (lis ns).length) : (lis ns)[h]? = some (dayAt ns (h : Int) : Int) ∧ dayAt ns (h : Int) < ns.length ∧ ahead ns (dayAt ns (h : Int)) ≤ (h : Int) ∧ (h : Int) < ahead ns (dayAt ns (h : Int) + 1) := by
  have hl := lis_len ok
  obtain ⟨j, j1, j2, j3, j4⟩ := lisK_get ok.all (k := ns.length) (h := h) (Nat.le_refl _) (by rw [ahead_all]; omega)
  obtain ⟨d1, d2, d3⟩ := dayAt_spec (h := (h : Int)) ok.all (by omega) (by omega)
  have e : j = dayAt ns (h : Int) := by
    rcases Nat.lt_trichotomy j (dayAt ns (h : Int)) with z | z | z
    · have := ahead_mono ok.all (i := j + 1) (j := dayAt ns (h : Int)) (by omega) (by omega)
      omega
    · exact z
    · have := ahead_mono ok.all (i := dayAt ns (h : Int) + 1) (j := j) (by omega) (by omega)
      omega
  subst e
  exact ⟨j2, d1, d2, d3⟩
theorem lis_day {ns : List Int} (ok : OkN ns) {h j : Nat} (hh : h < (lis ns).length) (hj : j < ns.length) : (dayAt ns (h : Int) = j) ↔ (ahead ns j ≤ (h : Int) ∧ (h : Int) < ahead ns (j + 1)) := by
  obtain ⟨_, d1, d2, d3⟩ := lis_get ok hh
  constructor
  · rintro rfl
    exact ⟨d2, d3⟩
  · rintro ⟨h1, h2⟩
    rcases Nat.lt_trichotomy j (dayAt ns (h : Int)) with z | z | z
    · have := ahead_mono ok.all (i := j + 1) (j := dayAt ns (h : Int)) (by omega) (by omega)
      omega
    · exact z.symm
    · have := ahead_mono ok.all (i := dayAt ns (h : Int) + 1) (j := j) (by omega) (by omega)
      omega
theorem rgI_step {a b h : Int} : (if a ≤ h ∧ h < b then rgI a (min h b) ++ [h] else rgI a (min h b)) = rgI a (min (h + 1) b) := by
  unfold rgI
  by_cases c : a ≤ h ∧ h < b
  · rw [if_pos c, show min h b = h by omega, show min (h + 1) b = h + 1 by omega, show (h + 1 - a).toNat = (h - a).toNat + 1 by omega, List.range_succ, List.map_append]
    simp
    omega
  · rw [if_neg c]
    by_cases d : b ≤ h
    · rw [show min h b = b by omega, show min (h + 1) b = b by omega]
    · rw [show (min h b - a).toNat = 0 by omega, show (min (h + 1) b - a).toNat = 0 by omega]
/-! ### what is heard -/
section
variable {T : List (Addr × Str)} {PG D S M N : Addr} {t : XK → TE} {σ : L2.St} {H : Hp} {Q : VK}
theorem heard_ref {C : Addr} {y : V} {w : Str} (mG : (PG, qG) ∈ T) (tb : Tb T PG H) (hT : ∀ (dd : Addr) (H' : Hp), H' dd = some (.xd [("value", y)]) → Told D S M N (.ref C) (some dd) H' [.str w, y, .bl true])
    (ht : ∀ (H1 : Hp) (E : XK) (Q1 : VK), Gr T PG H H1 → Ref T PG C y H1 E → t E σ H1 Q1) (q : ∀ (p : Addr) (H' : Hp), Gr T PG H H' → H' p = some (.tup [.str w, y, .bl true]) → Q (.ref p) H') : tLam T (THeard D S M N) t σ H Q := by
  refine ⟨tb.lam, fun H1 eN T1 => ?_⟩
  have g1 : Gr T PG H H1 := ⟨eN, Tb.of mG T1⟩
  exact ht H1 _ _ g1 fun H' dd g hd => ⟨_, hT dd H' hd, fun p hp => q p _ ((g1.trans g).new hp) upd_same⟩
theorem heard_row (mG : (PG, qG) ∈ T) (tb : Tb T PG H) (ht : ∀ (H1 : Hp) (E : XK) (Q1 : VK), Gr T PG H H1 → (∀ H', Gr T PG H1 H' → E (.ref N) none H') → t E σ H1 Q1)
    (q : ∀ (p : Addr) (H' : Hp), Gr T PG H H' → H' p = some (.tup [.str "none", .bl true, .bl true]) → Q (.ref p) H') : tLam T (THeard D S M N) t σ H Q := by
  refine ⟨tb.lam, fun H1 eN T1 => ?_⟩
  have g1 : Gr T PG H H1 := ⟨eN, Tb.of mG T1⟩
  exact ht H1 _ _ g1 fun H' g => ⟨_, .row rfl rfl, fun p hp => q p _ ((g1.trans g).new hp) upd_same⟩
theorem heard_is (Z : V → Hp → Prop) (mG : (PG, qG) ∈ T) (tb : Tb T PG H) (ht : ∀ (H1 : Hp) (E : XK) (Q1 : VK), Gr T PG H H1 → (∀ v H', Gr T PG H1 H' → Z v H' → Q1 v H') → t E σ H1 Q1)
    (q : ∀ (v : V) (p : Addr) (H' : Hp), Gr T PG H H' → Z v H' → H' p = none → Q (.ref p) (upd H' p (.tup [.str "is", v]))) : tLam T (THeard D S M N) t σ H Q := by
  refine ⟨tb.lam, fun H1 eN T1 => ?_⟩
  have g1 : Gr T PG H H1 := ⟨eN, Tb.of mG T1⟩
  exact ht H1 _ _ g1 fun v H' g z p hp => q v p H' (g1.trans g) z hp
/-- _law_like(_law_heard(..), (word, y, True)) -/
theorem like_ref {K : PySem.W.Frag} {C : Addr} {y : V} {d : PyData} {w : Str} {i : Nat} (mG : (PG, qG) ∈ T) (tb : Tb T PG H) (hT : ∀ (dd : Addr) (H' : Hp), H' dd = some (.xd [("value", y)]) → Told D S M N (.ref C) (some dd) H' [.str w, y, .bl true])
    (hi : σ[i]? = some (some y)) (ry : Rep K H y d) (sh : Shw d 3000 5) (sw : Shw (.str w) 3000 5)
    (ht : ∀ (H1 : Hp) (E : XK) (Q1 : VK), Gr T PG H H1 → Ref T PG C y H1 E → t E σ H1 Q1) (q : ∀ H', Gr T PG H H' → Q (.bl true) H') :
    tCallG (spLike K) (tCons (tLam T (THeard D S M N) t) (tCons (tTup (tCons (tC (.str w)) (tCons (tVar i) (tCons (tC (.bl true)) tNil)))) tNil)) σ H Q := by
  refine heard_ref mG tb hT ht fun p H' g hp => ⟨_, hi, by show 3 ≤ sizeLine; decide, fun p2 hp2 => ?_⟩
  have g2 := g.new (o := .tup [.str w, y, .bl true]) hp2
  have np : p ≠ p2 := fun z => by rw [z, hp2] at hp; cases hp
  have items : RepAll K (upd H' p2 (.tup [.str w, y, .bl true])) [.str w, y, .bl true] [.str w, d, .bool true] := .cons (.str w) (.cons (ry.ext g2.ext) (.cons (.bl true) .nil))
  refine ⟨p, p2, .tuple [.str w, d, .bool true], 20000, 6, rfl, .tup (.inl (.inl (by rw [upd_ne np]; exact hp))) items, .tup (.inl (.inl upd_same)) items, ?_, by decide, by decide, q _ g2⟩
  refine shw_tup (m := 3000) (k := 5) (fun x hx => ?_) (by show 3 * 3000 + 3 * 2 + 4 + 3000 ≤ 20000; decide)
  simp only [List.mem_cons, List.not_mem_nil, or_false] at hx
  rcases hx with rfl | rfl | rfl
  · exact sw
  · exact sh
  · exact (shw_bl true).mono (by decide) (by decide)
end
theorem shw_par : Shw (.str "parameter") 3000 5 := ⟨⟨by decide +kernel, by decide +kernel, by decide +kernel⟩, by decide +kernel⟩
theorem shw_days : Shw (.str "days") 3000 5 := ⟨⟨by decide +kernel, by decide +kernel, by decide +kernel⟩, by decide +kernel⟩
theorem shw_set : Shw (.str "set") 3000 5 := ⟨⟨by decide +kernel, by decide +kernel, by decide +kernel⟩, by decide +kernel⟩
theorem shw_none : Shw (.str "none") 3000 5 := ⟨⟨by decide +kernel, by decide +kernel, by decide +kernel⟩, by decide +kernel⟩
theorem shw_is : Shw (.str "is") 3000 5 := ⟨⟨by decide +kernel, by decide +kernel, by decide +kernel⟩, by decide +kernel⟩
/-- days as they are handed to a part of the law -/
def spDaysIn (K : PySem.W.Frag) (T : List (Addr × Str)) (PG : Addr) : Sp := fun vs H Q _ => ∃ (a : Addr) (ns : List Int), vs = [.ref a] ∧ SqT K H a (ns.map V.int) ∧ OkN ns ∧ Tb T PG H ∧ ∀ H', Gr T PG H H' → Q (.bl true) H'
def nHR : List Str := ["days_so", "listed", "rows_so", "odd", "spot", "here", "mine"]
/-- what the law's own defs keep -/
structure Lw (P : Program) (w : World) (K : PySem.W.Frag) (mg : Str → Option Value) (base : Heap) (T : List (Addr × Str)) (PG D S M N HE : Addr) : Prop where
  bl : Bl mg
  et : ErrT K mg D S M N HE
  heard : At K mg "_law_heard" sHeard ["call"]
  like : DefG P w K mg base 1 "_law_like" ["got", "due"] (spLike K)
  listed : Def P w K mg base CX0 1 "_law_listed" ["days_so"] (spListed K)
  needDays : Def P w K mg base (L2.CX P w) 6 "need_days" ["days"] (spNeedDays K T PG D)
  hoursIn : Def P w K mg base (L2.CX P w) 7 "hours_in" ["days"] (spHoursIn K T PG D)
  dayOf : Def P w K mg base (L2.CX P w) 8 "day_of" ["days", "hour"] (spDayOf K T PG D M)
  dayHours : Def P w K mg base (L2.CX P w) 8 "day_hours" ["days", "day"] (spDayHours K T PG D M)
  held : Def P w K mg base (L2.CX P w) 8 "held_hours" ["days", "length", "hour"] (spHeld K T PG D M N)
  needSet : Def P w K mg base (L2.CX P w) 8 "need_set" ["value", "most"] (spNeedSet K T PG S M)
section
variable {P : Program} {w : World} {K : PySem.W.Frag} {mg : Str → Option Value} {base : Heap} {T : List (Addr × Str)} {PG D S M N HE : Addr}
theorem scHoursRight : FnScope nHR ["days_so"] (defScope sHoursRight) := ⟨rfl, rfl, rfl, by decide +kernel, rfl, by decide +kernel, by decide +kernel⟩
def cmpOf : Stmt → Expr
  | .Assign _ e _ => e
  | _ => .Constant .none 0 ⟨0, 0, 0, 0⟩
def cmpParts : Expr → Expr × Scope
  | .ListComp e _ s _ => (e, s)
  | e => (e, { kind := .function, names := [], isGenerator := false, isCoroutine := false })
abbrev cmpO : Expr × Scope := cmpParts (cmpOf ((defBody sHoursRight).getD 3 (.Pass ⟨0, 0, 0, 0⟩)))
abbrev cmpI : Expr := match cmpO.1 with
  | .Call _ [e] _ _ => e
  | e => e
def rTupOf (K : PySem.W.Frag) : List V → Hp → VK → Prop := fun xs H Q => ∃ p ys, xs = [.ref p] ∧ ((SqL K H p ys ∧ ∀ l, H l = none → Q (.ref l) (upd H l (.tup ys))) ∨ (SqT K H p ys ∧ Q (.ref p) H))
def qHR : Str := (envOfC "_law_hours_right" (defScope sHoursRight) 0 0 .none).qual ++ "<lambda>"
theorem def_hoursRight (L : Lw P w K mg base T PG D S M N HE) {PL : Addr} (F : AtC K mg base "_law_hours_right" sHoursRight ["days_so"] PL) (mq : (PL, qHR) ∈ T) (uq : ∀ p ∈ T, p.1 = PL → p.2 = qHR) (mG : (PG, qG) ∈ T) :
    DefG P w K mg base 11 "_law_hours_right" ["days_so"] (spDaysIn K T PG) := by
  refine F.okG scHoursRight (fun vs H Q E h => ?_) (fun f c A outer s H vs Q E tb hgd hr h => ?_)
  · obtain ⟨a, ns, rfl, _⟩ := h
    rfl
  · obtain ⟨a, ns, rfl, ha, ok, tg, q⟩ := h
    have hin : ∀ (s' : Shared) (H' : Hp) (C' : Addr) (cl' : List (Str × Addr)) (fp' : List Addr), PE ((cxOf CX0 P w K mg base nHR "_law_hours_right" (defScope sHoursRight) f (.ref c) A outer s H E).nox.blk s' H' cmpO.2 (compEnvC cmpO.2 cl' C' (cxOf CX0 P w K mg base nHR "_law_hours_right" (defScope sHoursRight) f (.ref c) A outer s H E).nox.env) fp') cmpI
        (tLc (iEnum K (tCons (tVar 1) tNil)) (gTup K 2 (gCons (gName 5) (gCons (gName 6) gNil))) (tTest (tOp rEq (tVar 6) (tVar 4))) (tVar 5) [5, 6]) := by
      intro s' H' C' cl' fp'
      exact pe_lc (own := [("here", 5), ("mine", 6)]) rfl scHoursRight.nd (pi_enum (by rfl) L.bl.enu (pa_cons (pv 1) pa_nil)) (blkOk_by (N := nHR) (sc := relabel cmpO.2 (envOfC "_law_hours_right" (defScope sHoursRight) 0 0 .none)) (by decide +kernel))
        (fun _ _ _ _ _ => pg_tup rfl (pgs_cons (pg_name (i := 5) scHoursRight.nd rfl (Or.inl rfl)) (pgs_cons (pg_name (i := 6) scHoursRight.nd rfl (Or.inl rfl)) pgs_nil))) (fun _ _ _ _ _ => pts_one (pt_cmpR op_eq (pv 6) (pv 4) rfl)) (fun _ _ _ _ _ => pv 5)
    refine ⟨_, pss_cons (ps_set (i := 1) scHoursRight.nd rfl (Or.inr rfl) (pe_def L.listed (hr.mono (by decide)) (by rfl) pass0 (pa_cons (pv 0) pa_nil)))
      (pss_cons (ps_if (pt_not (pt_val (pe_defG L.like hgd (hr.mono (by decide)) (by rfl) (pa_cons (pe_lst (pa_cons (pe_def (E := E0) L.needDays (hr.mono (by decide)) (by rfl) passN (pa_cons (pv 0) pa_nil)) (pa_cons (pe_def (E := E0) L.hoursIn (hr.mono (by decide)) (by rfl) passN (pa_cons (pv 0) pa_nil)) pa_nil)))
            (pa_cons (pe_lst (pa_cons (pv 0) (pa_cons (pe_callB call_len_seq (by rfl) L.bl.len sLen (pa_cons (pv 1) pa_nil)) pa_nil))) pa_nil)))))
          (pss_one (ps_ret pe_bl)) pss_nil)
      (pss_cons (ps_if (pt_not (pt_val (pe_defG L.like hgd (hr.mono (by decide)) (by rfl) (pa_cons
            (pe_lc (own := [("spot", 4)]) (g := gName 4) (tt := tYes) rfl scHoursRight.nd (pi_range1 (by rfl) L.bl.rng (pa_cons (pe_callB call_len_seq (by rfl) L.bl.len sLen (pa_cons (pv 1) pa_nil)) pa_nil)) (blkOk_by (N := nHR) (sc := defScope sHoursRight) (by decide +kernel)) (fun _ _ _ _ _ => pg_name (i := 4) scHoursRight.nd rfl (Or.inl rfl)) (fun _ _ _ _ _ => pts_nil)
              (fun _ _ _ _ _ => pe_def (E := E0) L.dayOf (hr.mono (by decide)) (by rfl) passN (pa_cons (pv 0) (pa_cons (pv 4) pa_nil))))
            (pa_cons (pv 1) pa_nil)))))
          (pss_one (ps_ret pe_bl)) pss_nil)
      (pss_cons (ps_setLc (i := 2) (own := [("spot", 4)]) (g := gName 4) (tt := tYes) rfl scHoursRight.nd rfl (by rfl) (by rfl) (pi_range1 (by rfl) L.bl.rng (pa_cons (pe_callB call_len_seq (by rfl) L.bl.len sLen (pa_cons (pv 0) pa_nil)) pa_nil)) (blkOk_by (N := nHR) (sc := defScope sHoursRight) (by decide +kernel)) (fun _ _ _ _ _ => pg_name (i := 4) scHoursRight.nd rfl (Or.inr rfl)) (fun _ _ _ _ _ => pts_nil)
          (fun sB HB CB clB fpB => pe_callTy (r := rTupOf K) call_tuple_of (by rfl) L.bl.tup sTup (pa_cons (hin sB HB CB clB fpB) pa_nil)))
      (pss_cons (ps_if (pt_not (pt_val (pe_defG L.like hgd (hr.mono (by decide)) (by rfl) (pa_cons
            (pe_lc (own := [("spot", 4)]) (g := gName 4) (tt := tYes) rfl scHoursRight.nd (pi_range1 (by rfl) L.bl.rng (pa_cons (pe_callB call_len_seq (by rfl) L.bl.len sLen (pa_cons (pv 0) pa_nil)) pa_nil)) (blkOk_by (N := nHR) (sc := defScope sHoursRight) (by decide +kernel)) (fun _ _ _ _ _ => pg_name (i := 4) scHoursRight.nd rfl (Or.inl rfl)) (fun _ _ _ _ _ => pts_nil)
              (fun _ _ _ _ _ => pe_def (E := E0) L.dayHours (hr.mono (by decide)) (by rfl) passN (pa_cons (pv 0) (pa_cons (pv 4) pa_nil))))
            (pa_cons (pv 2) pa_nil)))))
          (pss_one (ps_ret pe_bl)) pss_nil)
      (pss_cons (ps_for PassesOwn.never rfl (pi_tup (pe_tup (pa_cons (pe_un un_neg pe_int) (pa_cons (pe_callB call_len_seq (by rfl) L.bl.len sLen (pa_cons (pv 1) pa_nil)) (pa_cons pe_bl (pa_cons pe_non (pa_cons pe_str (pa_cons (pe_tup (pa_cons pe_int pa_nil)) pa_nil)))))))) (pg_name (i := 3) scHoursRight.nd rfl (Or.inr rfl))
          (pss_one (ps_if (pt_not (pt_val (pe_defG L.like hgd (hr.mono (by decide)) (by rfl) (pa_cons
            (pe_heard (k := 8) L.et L.heard (by rfl) tb rfl mq uq hr (lamS_by (sc := defScope sHoursRight) (by decide +kernel)) (by rfl) (fun _ _ _ _ _ => by rfl)
              (fun A2 outer2 s2 H2 E2 f2 c2 hr2 => pe_def (E := E2) L.dayOf hr2 (by rfl) (passes_call (takes_of rfl rfl rfl rfl) fun _ _ _ _ h => h) (pa_cons (pv 0) (pa_cons (pv 3) pa_nil))))
            (pa_cons (pe_tup (pa_cons pe_str (pa_cons (pv 3) (pa_cons pe_bl pa_nil)))) pa_nil)))))
          (pss_one (ps_ret pe_bl)) pss_nil)))
      (pss_cons (ps_for PassesOwn.never rfl (pi_tup (pe_tup (pa_cons (pe_un un_neg pe_int) (pa_cons (pe_callB call_len_seq (by rfl) L.bl.len sLen (pa_cons (pv 0) pa_nil)) (pa_cons pe_bl (pa_cons pe_non (pa_cons (pe_lst (pa_cons pe_int pa_nil)) pa_nil))))))) (pg_name (i := 3) scHoursRight.nd rfl (Or.inr rfl))
          (pss_one (ps_if (pt_not (pt_val (pe_defG L.like hgd (hr.mono (by decide)) (by rfl) (pa_cons
            (pe_heard (k := 8) L.et L.heard (by rfl) tb rfl mq uq hr (lamS_by (sc := defScope sHoursRight) (by decide +kernel)) (by rfl) (fun _ _ _ _ _ => by rfl)
              (fun A2 outer2 s2 H2 E2 f2 c2 hr2 => pe_def (E := E2) L.dayHours hr2 (by rfl) (passes_call (takes_of rfl rfl rfl rfl) fun _ _ _ _ h => h) (pa_cons (pv 0) (pa_cons (pv 3) pa_nil))))
            (pa_cons (pe_tup (pa_cons pe_str (pa_cons (pv 3) (pa_cons pe_bl pa_nil)))) pa_nil)))))
          (pss_one (ps_ret pe_bl)) pss_nil)))
      (pss_one (ps_ret pe_bl)))))))), ?_⟩
    have g0 := Gr.refl (T := T) (PG := PG) tg
    have hs := ok.sum
    have hln := lis_len ok
    have n84 : (lis ns).length ≤ 84 := by omega
    have n7 := ok.hi
    have small : ∀ i ∈ lis ns, i.natAbs < 10 ^ 10 := fun i hi => by
      obtain ⟨h, hh, rfl⟩ := List.getElem_of_mem hi
      obtain ⟨e1, e2, _, _⟩ := lis_get ok hh
      rw [List.getElem?_eq_getElem hh] at e1
      rw [Option.some.inj e1]
      omega
    have small0 : ∀ i ∈ ns, i.natAbs < 10 ^ 10 := fun i hi => by
      have := ok.all i hi
      omega
    -- listed
    refine ⟨_, rfl, a, ns, rfl, ha, ok, fun l H1 s1 nl hl1 => ?_⟩
    have g1 := g0.same s1
    -- need_days, hours_in
    refine ⟨_, rfl, .ref a, _, rfl, .of (g1.sqt ha) ok g1.tb fun H2 g2 => ?_⟩
    have g12 := g1.trans g2
    refine ⟨_, rfl, .ref a, _, rfl, .of (g12.sqt ha) ok g12.tb fun H3 g3 => ?_⟩
    have g13 := g12.trans g3
    have hl3 : H3 l = some (.lst ((lis ns).map V.int)) := (g2.trans g3).lst hl1
    refine ⟨by show 2 ≤ sizeLine; decide, fun p hp => ⟨_, rfl, _, rfl, l, _, rfl, .inl (SqL.of ((Gr.refl g13.tb).new hp |>.lst hl3)), by show 2 ≤ sizeLine; decide, fun p2 hp2 => ?_⟩⟩
    have g14 := (g13.new (o := .lst [.ref a, .int ns.sum]) hp).new (o := .lst [.ref a, .int ((lis ns).map V.int).length]) hp2
    have n2 : p ≠ p2 := fun z => by rw [z, upd_same] at hp2; cases hp2
    have len1 : ((((lis ns).map V.int).length : Nat) : Int) = ns.sum := by rw [List.length_map]; exact hln
    refine ⟨p, p2, .list [.tuple (ns.map .int), .int ns.sum], 2000, 2, rfl, ?_, ?_, ?_, by decide, by decide, _, rfl, ?_⟩
    · exact .lst (SqL.of (by rw [upd_ne n2]; exact upd_same)) (.cons (.tup (g14.sqt ha) (.ints ns)) (.cons (.int _) .nil))
    · exact .lst (SqL.of upd_same) (.cons (.tup (g14.sqt ha) (.ints ns)) (.cons (by rw [len1]; exact .int _) .nil))
    · refine shw_list (m := 300) (k := 1) (fun d hd => ?_) (by show 2 * 300 + 2 * 2 + 4 + 300 ≤ 2000; decide)
      simp only [List.mem_cons, List.not_mem_nil, or_false] at hd
      rcases hd with rfl | rfl
      · exact shw_intsT small0 (by omega)
      · exact (shw_int (by omega)).mono (by decide) (by decide)
    have hl4 := (((Gr.refl g13.tb).new (o := .lst [.ref a, .int ns.sum]) hp).new (o := .lst [.ref a, .int ((lis ns).map V.int).length]) hp2).lst hl3
    generalize upd (upd H3 p (.lst [.ref a, .int ns.sum])) p2 (.lst [.ref a, .int ((lis ns).map V.int).length]) = H4 at g14 hl4 ⊢
    clear hl3 g13 g12 g1 g2 g3 hp hp2 s1 hl1
    -- day_of
    refine ⟨_, rfl, l, _, rfl, .inl (SqL.of hl4), _, rfl, by omega, by omega, fun D0 hD0 => ?_⟩
    have nl0 : l ≠ D0 := fun z => by rw [z, hD0] at hl4; cases hl4
    rw [show ((((lis ns).map V.int).length : Nat) : Int).toNat = (lis ns).length by rw [List.length_map]; rfl]
    refine lc_range (fun k H' => Gr T PG H4 H' ∧ H' D0 = some (.lst (((lis ns).take k).map V.int))) ?_ ?_ ?_
    · exact ⟨(Gr.refl g14.tb).new hD0, upd_same⟩
    · rintro k H' hk ⟨g5, h5⟩
      obtain ⟨e1, e2, e3, e4⟩ := lis_get ok hk
      refine ⟨rfl, yes ?_⟩
      rw [if_pos rfl]
      have g45 := g14.trans g5
      refine ⟨_, rfl, _, rfl, .ref a, _, _, _, rfl, .int _, .of (g45.sqt ha) ok g45.tb ⟨fun z => ?_, fun h eh h0 h1 H6 g6 => ?_⟩⟩
      · rw [within_yes (by omega) (by omega)] at z
        cases z
      · refine ⟨_, g6.lst h5, by rw [sizeLine_eq, List.length_map, List.length_take]; omega, (g5.trans g6).mut hD0 (g6.lst h5), ?_⟩
        have eh2 : h = (k : Int) := by
          have := PyData.int.inj eh
          omega
        subst eh2
        rw [upd_same, List.take_add_one, e1, List.map_append]
        rfl
    · rintro H5 ⟨g5, h5⟩
      rw [List.take_of_length_le (Nat.le_refl _)] at h5
      refine ⟨_, rfl, D0, l, .list ((lis ns).map .int), 2000, 1, rfl, .lst (SqL.of h5) (.ints _), .lst (SqL.of (g5.lst hl4)) (.ints _), shw_ints small (by omega), by decide, by decide, _, rfl, ?_⟩
      have hl5 := g5.lst hl4
      have g15 := g14.trans g5
      clear g5 h5 hD0 nl0 hl4 g14
      clear H4 D0
      -- rows_so
      refine ⟨_, rfl, a, _, rfl, .inr (g15.sqt ha), _, rfl, by rw [List.length_map]; omega, by rw [List.length_map]; omega, fun D1 hD1 => ?_⟩
      rw [show ((((ns.map V.int).length : Nat) : Int).toNat) = ns.length by rw [List.length_map]; rfl]
      refine lc_range (fun k H' => Gr T PG H5 H' ∧ ∃ ts, H' D1 = some (.lst ts) ∧ ts.length = k ∧ RepAll K H' ts ((List.range k).map fun j => .tuple ((rgI (ahead ns j) (ahead ns (j + 1))).map .int))) ?_ ?_ ?_
      · exact ⟨(Gr.refl g15.tb).new hD1, [], upd_same, rfl, .nil⟩
      · rintro k H' hk ⟨g6, ts, h6, lt, rt⟩
        refine ⟨rfl, yes ?_⟩
        rw [if_pos rfl]
        have b2 := sum_bound ok k
        have b3 := sum_bound ok (k + 1)
        refine ⟨_, rfl, l, _, rfl, SqL.of (g6.lst hl5), fun D2 hD2 => ?_⟩
        have n21 : D2 ≠ D1 := fun z => by rw [z, h6] at hD2; cases hD2
        refine lc_enum (K := K) (a := l) (xs := (lis ns).map V.int) (fun h H'' => Gr T PG H' H'' ∧ H'' D2 = some (.lst ((rgI (ahead ns k) (min (h : Int) (ahead ns (k + 1)))).map V.int))) ?_ ?_ ?_ ?_
        · refine ⟨(Gr.refl (g15.trans g6).tb).new hD2, ?_⟩
          rw [upd_same]
          have e0 : rgI (ahead ns k) (min ((0 : Nat) : Int) (ahead ns (k + 1))) = [] := by
            unfold rgI
            rw [show (min ((0 : Nat) : Int) (ahead ns (k + 1)) - ahead ns k).toNat = 0 by omega]
            rfl
          rw [e0]
          rfl
        · rintro h H'' hle ⟨g7, _⟩
          exact SqL.of (g7.lst (g6.lst hl5))
        · rintro h x H'' U hx ⟨g7, h7⟩ hU
          obtain ⟨v, hv, rfl⟩ : ∃ v, (lis ns)[h]? = some v ∧ x = V.int v := by
            rw [List.getElem?_map] at hx
            cases e : (lis ns)[h]? with
            | none => rw [e] at hx; cases hx
            | some u => rw [e] at hx; exact ⟨u, rfl, (Option.some.inj hx).symm⟩
          have hlt : h < (lis ns).length := (List.getElem?_eq_some_iff.mp hv).1
          obtain ⟨e1, _⟩ := lis_get ok hlt
          rw [hv] at e1
          have ev : v = (dayAt ns (h : Int) : Int) := Option.some.inj e1
          have nU : D2 ≠ U := fun z => by rw [z, hU] at h7; cases h7
          have g8 := g7.new (o := .tup [.int (h : Nat), .int v]) hU
          have step := rgI_step (a := ahead ns k) (b := ahead ns (k + 1)) (h := (h : Int))
          refine ⟨U, _, rfl, .inl (.inl upd_same), rfl, _, _, rfl, _, _, rfl, rfl, rfl, ?_⟩
          refine ⟨_, rfl, _, rfl, rfl, _, rfl, ?_⟩
          by_cases cd : dayAt ns (h : Int) = k
          · have ce : V.int v = V.int (0 + (k : Nat)) := by rw [ev, cd]; congr 1; omega
            rw [decide_eq_true ce]
            have c2 := (lis_day ok hlt hk).mp cd
            rw [if_pos c2] at step
            refine ⟨_, rfl, _, (by rw [upd_ne nU]; exact h7), by rw [sizeLine_eq, List.length_map, len_rgI]; omega, g8.mut hD2 (by rw [upd_ne nU]; exact h7), ?_⟩
            rw [upd_same, show ((h + 1 : Nat) : Int) = (h : Int) + 1 from rfl, ← step, List.map_append]
            rfl
          · have ce : ¬ V.int v = V.int (0 + (k : Nat)) := by
              rw [ev]
              intro z
              injection z with z
              omega
            rw [decide_eq_false ce]
            have c2 := mt (lis_day ok hlt hk).mpr cd
            rw [if_neg c2] at step
            refine ⟨g8, ?_⟩
            rw [upd_ne nU, h7, step]
            rfl
        · rintro H'' ⟨g7, h7⟩
          have e9 : min (((((lis ns).map V.int).length : Nat)) : Int) (ahead ns (k + 1)) = ahead ns (k + 1) := by
            rw [List.length_map, hln]
            have := ahead_mono ok.all (i := k + 1) (j := ns.length) (by omega) (Nat.le_refl _)
            rw [ahead_all] at this
            omega
          rw [e9] at h7
          have h8 := g7.lst h6
          refine ⟨D2, _, rfl, .inl ⟨SqL.of h7, fun t ht => ?_⟩⟩
          have n1t : D1 ≠ t := fun z => by rw [z, ht] at h8; cases h8
          have g9 := (g6.trans g7).new (o := .tup ((rgI (ahead ns k) (ahead ns (k + 1))).map V.int)) ht
          have h9 : upd H'' t (.tup ((rgI (ahead ns k) (ahead ns (k + 1))).map V.int)) D1 = some (.lst ts) := by rw [upd_ne n1t]; exact h8
          refine ⟨ts, h9, by rw [sizeLine_eq]; omega, g9.mut hD1 h9, ts ++ [.ref t], upd_same, by simp [lt], ?_⟩
          rw [List.range_succ, List.map_append]
          have rt2 : RepAll K (upd H'' t (.tup ((rgI (ahead ns k) (ahead ns (k + 1))).map V.int))) ts ((List.range k).map fun j => .tuple ((rgI (ahead ns j) (ahead ns (j + 1))).map .int)) := (rt.ext g7.ext).ext (ext_new ht)
          refine .append (repAll_mut h9 rt2 (noLs_tups _ _)) (.cons (.tup (sqt_mut h9 (.inl (.inl upd_same))) (.ints _)) .nil)
      · rintro H6 ⟨g6, ts, h6, lt, rt⟩
        have g16 := g15.trans g6
        have hl6 := g6.lst hl5
        clear hl5 g15 g6 hD1
        clear H5
        -- day_hours
        refine ⟨_, rfl, a, _, rfl, .inr (g16.sqt ha), _, rfl, by rw [List.length_map]; omega, by rw [List.length_map]; omega, fun D3 hD3 => ?_⟩
        have n31 : D1 ≠ D3 := fun z => by rw [z, hD3] at h6; cases h6
        rw [show ((((ns.map V.int).length : Nat) : Int).toNat) = ns.length by rw [List.length_map]; rfl]
        refine lc_range (fun k H' => Gr T PG H6 H' ∧ ∃ us, H' D3 = some (.lst us) ∧ us.length = k ∧ RepAll K H' us ((List.range k).map fun j => .tuple ((rgI (ahead ns j) (ahead ns (j + 1))).map .int))) ?_ ?_ ?_
        · exact ⟨(Gr.refl g16.tb).new hD3, [], upd_same, rfl, .nil⟩
        · rintro k H' hk ⟨g7, us, h7, lu, ru⟩
          refine ⟨rfl, yes ?_⟩
          rw [if_pos rfl]
          have g17 := g16.trans g7
          refine ⟨_, rfl, _, rfl, .ref a, _, _, _, rfl, .int _, .of (g17.sqt ha) ok g17.tb ⟨fun z => ?_, fun j ej hj H8 p g8 hp => ?_⟩⟩
          · rw [within_yes (by omega) (by omega)] at z
            cases z
          · have ek : j = k := by
              have := PyData.int.inj ej
              omega
            subst ek
            have h8 := g8.lst h7
            refine ⟨us, h8, by rw [sizeLine_eq]; omega, (g7.trans g8).mut hD3 h8, us ++ [.ref p], upd_same, by simp [lu], ?_⟩
            rw [List.range_succ, List.map_append]
            rw [rgV_eq] at hp
            exact .append (repAll_mut h8 (ru.ext g8.ext) (noLs_tups _ _)) (.cons (.tup (sqt_mut h8 (.inl (.inl hp))) (.ints _)) .nil)
        · rintro H7 ⟨g7, us, h7, lu, ru⟩
          have shR : Shw (.list ((List.range ns.length).map fun j => .tuple ((rgI (ahead ns j) (ahead ns (j + 1))).map .int))) 30000 2 := by
            refine shw_list (m := 2000) (k := 1) (fun d hd => ?_) (by rw [List.length_map, List.length_range]; omega)
            obtain ⟨j, hj, rfl⟩ := List.mem_map.mp hd
            have b2 := sum_bound ok j
            have b3 := sum_bound ok (j + 1)
            refine shw_intsT (fun i hi => ?_) (by rw [len_rgI]; omega)
            have := mem_rgI.mp hi
            omega
          refine ⟨_, rfl, D3, D1, _, 30000, 2, rfl, .lst (SqL.of h7) ru, .lst (SqL.of (g7.lst h6)) (rt.ext g7.ext), shR, by decide, by decide, _, rfl, ?_⟩
          have g17 := g16.trans g7
          have hl7 := g7.lst hl6
          clear h7 ru lu h6 rt lt hl6 g16 g7 hD3 n31
          clear H6 us
          -- odd hours
          refine ⟨_, rfl, _, rfl, l, _, rfl, .inl (SqL.of hl7), by show 1 ≤ sizeLine; decide, fun q1 hq1 => ⟨by show 6 ≤ sizeLine; decide, fun q2 hq2 => ⟨q2, rfl, ⟨_, .inl (.inl upd_same)⟩, ?_⟩⟩⟩
          have g18 := (g17.new (o := .tup [.int 0]) hq1).new (o := .tup [.int (-1), .int ((lis ns).map V.int).length, .bl true, .non, .str "0", .ref q1]) hq2
          have n12 : q1 ≠ q2 := fun z => by rw [z, upd_same] at hq2; cases hq2
          have hl8 := (((Gr.refl g17.tb).new (o := .tup [.int 0]) hq1).new (o := .tup [.int (-1), .int ((lis ns).map V.int).length, .bl true, .non, .str "0", .ref q1]) hq2).lst hl7
          have hq18 : upd (upd H7 q1 (.tup [.int 0])) q2 (.tup [.int (-1), .int ((lis ns).map V.int).length, .bl true, .non, .str "0", .ref q1]) q1 = some (.tup [.int 0]) := by rw [upd_ne n12]; exact upd_same
          have hq28 : upd (upd H7 q1 (.tup [.int 0])) q2 (.tup [.int (-1), .int ((lis ns).map V.int).length, .bl true, .non, .str "0", .ref q1]) q2 = some (.tup [.int (-1), .int ((lis ns).map V.int).length, .bl true, .non, .str "0", .ref q1]) := upd_same
          generalize upd (upd H7 q1 (.tup [.int 0])) q2 (.tup [.int (-1), .int ((lis ns).map V.int).length, .bl true, .non, .str "0", .ref q1]) = H8 at g18 hl8 hq18 hq28 ⊢
          clear hl7 g17 hq1 hq2 n12
          clear H7
          let ds : List PyData := [.int (-1), .int ns.sum, .bool true, .none, .str "0", .tuple [.int 0]]
          have rds : RepAll K H8 [.int (-1), .int ((lis ns).map V.int).length, .bl true, .non, .str "0", .ref q1] ds := .cons (.int _) (.cons (by rw [List.length_map, hln]; exact .int _) (.cons (.bl _) (.cons .non (.cons (.str _) (.cons (.tup (.inl (.inl hq18)) (.cons (.int 0) .nil)) .nil)))))
          refine for_tup (K := K) (a := q2) (xs := [.int (-1), .int ((lis ns).map V.int).length, .bl true, .non, .str "0", .ref q1]) (fun i σ H' => ∃ o, Gr T PG H8 H' ∧ σ = [some (.ref a), some (.ref l), some (.ref D1), o, none, none, none]) ?_ ?_ ?_ ?_
          · exact ⟨none, .refl g18.tb, rfl⟩
          · rintro i σ H' _ ⟨_, g9, _⟩
            exact .inl (.inl (g9.tup hq28))
          · rintro i x σ H' hx ⟨o, g9, rfl⟩
            obtain ⟨d, hd, rx⟩ := rep_at rds hx
            have g19 := g18.trans g9
            have md : d ∈ ds := List.mem_of_getElem? hd
            have no : within d 0 (ns.sum - 1) = false := by
              simp only [ds, List.mem_cons, List.not_mem_nil, or_false] at md
              rcases md with rfl | rfl | rfl | rfl | rfl | rfl <;> first | (simp [within]; done) | (simp [within]; omega)
            have sd : Shw d 3000 5 := by
              simp only [ds, List.mem_cons, List.not_mem_nil, or_false] at md
              rcases md with rfl | rfl | rfl | rfl | rfl | rfl
              · exact (shw_int (by decide)).mono (by decide) (by decide)
              · exact (shw_int (by omega)).mono (by decide) (by decide)
              · exact (shw_bl _).mono (by decide) (by decide)
              · exact shw_non.mono (by decide) (by decide)
              · exact ⟨⟨by decide +kernel, by decide +kernel, by decide +kernel⟩, by decide +kernel⟩
              · exact (shw_intsT (ns := [0]) (n := 3000) (by simp) (by decide)).mono (by decide) (by decide)
            refine like_ref (d := d) mG g19.tb (fun dd H' h => .par rfl rfl h) rfl (rx.ext g9.ext) sd shw_par (fun H1 E1 Q1 g10 rf => ?_) fun H1 g10 => ?_
            · have g11 := g19.trans g10
              exact ⟨_, rfl, _, rfl, .ref a, _, x, d, rfl, (rx.ext g9.ext).ext g10.ext, .of (g11.sqt ha) ok g11.tb ⟨fun _ => rf, fun h eh h0 h1 => by rw [eh, within_yes (by omega) (by omega)] at no; cases no⟩⟩
            · exact ⟨_, rfl, _, g9.trans g10, rfl⟩
          · rintro σ H9 ⟨o, g9, rfl⟩
            have g19 := g18.trans g9
            clear rds hq18 hq28 hl8 g9 g18
            clear H8
            -- odd days
            refine ⟨_, rfl, _, rfl, a, _, rfl, .inr (g19.sqt ha), by show 1 ≤ sizeLine; decide, fun q3 hq3 => ⟨by show 5 ≤ sizeLine; decide, fun q4 hq4 => ⟨q4, rfl, ⟨_, .inl (.inl upd_same)⟩, ?_⟩⟩⟩
            have g20 := (g19.new (o := .lst [.int 0]) hq3).new (o := .tup [.int (-1), .int (ns.map V.int).length, .bl false, .non, .ref q3]) hq4
            have n34 : q3 ≠ q4 := fun z => by rw [z, upd_same] at hq4; cases hq4
            have hq3' : upd (upd H9 q3 (.lst [.int 0])) q4 (.tup [.int (-1), .int (ns.map V.int).length, .bl false, .non, .ref q3]) q3 = some (.lst [.int 0]) := by rw [upd_ne n34]; exact upd_same
            have hq4' : upd (upd H9 q3 (.lst [.int 0])) q4 (.tup [.int (-1), .int (ns.map V.int).length, .bl false, .non, .ref q3]) q4 = some (.tup [.int (-1), .int (ns.map V.int).length, .bl false, .non, .ref q3]) := upd_same
            generalize upd (upd H9 q3 (.lst [.int 0])) q4 (.tup [.int (-1), .int (ns.map V.int).length, .bl false, .non, .ref q3]) = H10 at g20 hq3' hq4' ⊢
            clear g19 hq3 hq4 n34
            clear H9
            let es : List PyData := [.int (-1), .int (ns.length : Nat), .bool false, .none, .list [.int 0]]
            have res : RepAll K H10 [.int (-1), .int (ns.map V.int).length, .bl false, .non, .ref q3] es := .cons (.int _) (.cons (by rw [List.length_map]; exact .int _) (.cons (.bl _) (.cons .non (.cons (.lst (SqL.of hq3') (.cons (.int 0) .nil)) .nil))))
            refine for_tup (K := K) (a := q4) (xs := [.int (-1), .int (ns.map V.int).length, .bl false, .non, .ref q3]) (fun i σ H' => ∃ o, Gr T PG H10 H' ∧ σ = [some (.ref a), some (.ref l), some (.ref D1), o, none, none, none]) ?_ ?_ ?_ ?_
            · exact ⟨_, .refl g20.tb, rfl⟩
            · rintro i σ H' _ ⟨_, g9, _⟩
              exact .inl (.inl (g9.tup hq4'))
            · rintro i x σ H' hx ⟨o, g9, rfl⟩
              obtain ⟨d, hd, rx⟩ := rep_at res hx
              have g19 := g20.trans g9
              have md : d ∈ es := List.mem_of_getElem? hd
              have no : within d 0 ((ns.length : Int) - 1) = false := by
                simp only [es, List.mem_cons, List.not_mem_nil, or_false] at md
                rcases md with rfl | rfl | rfl | rfl | rfl <;> first | (simp [within]; done) | (simp [within]; omega)
              have sd : Shw d 3000 5 := by
                simp only [es, List.mem_cons, List.not_mem_nil, or_false] at md
                rcases md with rfl | rfl | rfl | rfl | rfl
                · exact (shw_int (by decide)).mono (by decide) (by decide)
                · exact (shw_int (by omega)).mono (by decide) (by decide)
                · exact (shw_bl _).mono (by decide) (by decide)
                · exact shw_non.mono (by decide) (by decide)
                · exact (shw_ints (ns := [0]) (n := 3000) (by simp) (by decide)).mono (by decide) (by decide)
              refine like_ref (d := d) mG g19.tb (fun dd H' h => .par rfl rfl h) rfl (rx.ext g9.ext) sd shw_par (fun H1 E1 Q1 g10 rf => ?_) fun H1 g10 => ?_
              · have g11 := g19.trans g10
                exact ⟨_, rfl, _, rfl, .ref a, _, x, d, rfl, (rx.ext g9.ext).ext g10.ext, .of (g11.sqt ha) ok g11.tb ⟨fun _ => rf, fun j ej hj => by rw [ej, within_yes (by omega) (by omega)] at no; cases no⟩⟩
              · exact ⟨_, rfl, _, g9.trans g10, rfl⟩
            · rintro σ H11 ⟨o, g9, rfl⟩
              exact q H11 (g20.trans g9)
end
end K0
set_option Elab.async false
set_option linter.all false
set_option maxRecDepth 100000
set_option maxHeartbeats 4000000
/-! P11: the law's held_right. -/
namespace K0
open PySem PySem.Spec PyProof.Rows L2 BK LamX
def spHeldRight (K : PySem.W.Frag) (T : List (Addr × Str)) (PG : Addr) : Sp := fun vs H Q _ => ∃ (a : Addr) (ns : List Int) (x y : V) (f e : PyData), vs = [.ref a, x, y] ∧ SqT K H a (ns.map V.int) ∧ OkN ns ∧ Tb T PG H ∧ Rep K H x f ∧ Rep K H y e ∧ Shw f 3000 5 ∧ Shw e 3000 5 ∧ ∀ H', Gr T PG H H' → Q (.bl true) H'
def nHe : List Str := ["days_so", "long_so", "first", "listed", "good", "got", "step"]
/-- a pair of equal tuples, the second just laid -/
theorem like_tup {K : PySem.W.Frag} {T : List (Addr × Str)} {PG : Addr} {H0 H' : Hp} {p p2 : Addr} {xs : List V} {ds : List PyData} {Q : VK} (g : Gr T PG H0 H') (hp : H' p = some (.tup xs)) (r : RepAll K H' xs ds) (hp2 : H' p2 = none) (sh : Shw (.tuple ds) 20000 6) (q : ∀ H', Gr T PG H0 H' → Q (.bl true) H') :
    spLike K [.ref p, .ref p2] (upd H' p2 (.tup xs)) Q E0 := by
  have np : p ≠ p2 := fun z => by rw [z, hp2] at hp; cases hp
  have r2 : RepAll K (upd H' p2 (.tup xs)) xs ds := r.ext (ext_new hp2)
  exact ⟨p, p2, .tuple ds, 20000, 6, rfl, .tup (.inl (.inl (by rw [upd_ne np]; exact hp))) r2, .tup (.inl (.inl upd_same)) r2, sh, by decide, by decide, q _ (g.new hp2)⟩
theorem like_tup2 {K : PySem.W.Frag} {T : List (Addr × Str)} {PG : Addr} {H0 H' : Hp} {p p2 : Addr} {xs ys : List V} {ds : List PyData} {Q : VK} (g : Gr T PG H0 H') (hp : H' p = some (.tup xs)) (r : RepAll K H' xs ds) (r' : RepAll K H' ys ds) (hp2 : H' p2 = none) (sh : Shw (.tuple ds) 20000 6) (q : ∀ H', Gr T PG H0 H' → Q (.bl true) H') :
    spLike K [.ref p, .ref p2] (upd H' p2 (.tup ys)) Q E0 := by
  have np : p ≠ p2 := fun z => by rw [z, hp2] at hp; cases hp
  exact ⟨p, p2, .tuple ds, 20000, 6, rfl, .tup (.inl (.inl (by rw [upd_ne np]; exact hp))) (r.ext (ext_new hp2)), .tup (.inl (.inl upd_same)) (r'.ext (ext_new hp2)), sh, by decide, by decide, q _ (g.new hp2)⟩
theorem shw3 {w : Str} {d : PyData} (sw : Shw (.str w) 3000 5) (sd : Shw d 3000 5) : Shw (.tuple [.str w, d, .bool true]) 20000 6 := by
  refine shw_tup (m := 3000) (k := 5) (fun x hx => ?_) (by show 3 * 3000 + 3 * 2 + 4 + 3000 ≤ 20000; decide)
  simp only [List.mem_cons, List.not_mem_nil, or_false] at hx
  rcases hx with rfl | rfl | rfl
  · exact sw
  · exact sd
  · exact (shw_bl true).mono (by decide) (by decide)
theorem shw2 {w : Str} {d : PyData} (sw : Shw (.str w) 3000 5) (sd : Shw d 3000 5) : Shw (.tuple [.str w, d]) 20000 6 := by
  refine shw_tup (m := 3000) (k := 5) (fun x hx => ?_) (by show 2 * 3000 + 2 * 2 + 4 + 3000 ≤ 20000; decide)
  simp only [List.mem_cons, List.not_mem_nil, or_false] at hx
  rcases hx with rfl | rfl
  · exact sw
  · exact sd
/-- isinstance(x, bool) or not isinstance(x, int), as tests, at slot i; the rest u is asked of ints alone -/
theorem test_int {K : PySem.W.Frag} {σ : L2.St} {H : Hp} {Q : Bool → Hp → Prop} {i : Nat} {x : V} {f : PyData} {u : TT} (h1 : σ[i]? = some (some x)) (rx : Rep K H x f)
    (no : (∀ n, f ≠ .int n) → Q true H) (yes : ∀ n, f = .int n → x = .int n → u σ H Q) :
    tOr1 (tB (tCB (rIsi K) (tCons (tVar i) (tCons (tC (.ty "bool")) tNil)))) (tOr1 (tNot (tB (tCB (rIsi K) (tCons (tVar i) (tCons (tC (.ty "int")) tNil))))) u) σ H Q := by
  refine ⟨_, h1, _, _, _, _, _, rfl, .ty "bool", tyx_of rx, kit_ty (kit_bool _), _, rfl, ?_⟩
  cases f with
  | int n =>
    refine ⟨_, h1, _, _, _, _, _, rfl, .ty "int", tyx_of rx, kit_ty (kit_int _), _, rfl, ?_⟩
    cases rx
    exact yes n rfl rfl
  | bool b => exact no fun n z => nomatch z
  | _ =>
    refine ⟨_, h1, _, _, _, _, _, rfl, .ty "int", tyx_of rx, kit_ty (kit_int _), _, rfl, ?_⟩
    exact no fun n z => nomatch z
theorem within_not {f : PyData} {lo hi : Int} (h : ∀ n, f ≠ .int n) : within f lo hi = false := by
  cases f with
  | int n => exact absurd rfl (h n)
  | _ => rfl
/-- the first test: the length -/
theorem test_long {K : PySem.W.Frag} {σ : L2.St} {H : Hp} {Q : Bool → Hp → Prop} {i j : Nat} {x : V} {f : PyData} {gd : Addr} (h1 : σ[i]? = some (some x)) (h4 : σ[j]? = some (some (.ref gd))) (rx : Rep K H x f) (hg : H gd = some (.lst [.int 1, .int 2, .int 3, .int 4])) (q : Q (!within f 1 4) H) :
    tOr1 (tB (tCB (rIsi K) (tCons (tVar i) (tCons (tC (.ty "bool")) tNil)))) (tOr1 (tNot (tB (tCB (rIsi K) (tCons (tVar i) (tCons (tC (.ty "int")) tNil))))) (tOr1 (tTest (tOp (rIn K true) (tVar i) (tVar j))) tOr0)) σ H Q := by
  refine test_int h1 rx (fun z => by rw [within_not z] at q; exact q) fun n ef ex => ?_
  subst ef ex
  refine ⟨_, h1, _, h4, gd, _, rfl, .inl (SqL.of hg), rfl, rfl, _, rfl, ?_⟩
  have e : inV (.int n) [.int 1, .int 2, .int 3, .int 4] = within (.int n) 1 4 := by
    rw [show ([.int 1, .int 2, .int 3, .int 4] : List V) = ([1, 2, 3, 4] : List Int).map V.int from rfl, inV_ints, Bool.eq_iff_iff]
    simp [within]
    omega
  rw [e]
  cases hw : within (.int n) 1 4 with
  | true =>
    rw [hw] at q
    exact q
  | false =>
    rw [hw] at q
    exact q
/-- the second: the hour -/
theorem test_first {K : PySem.W.Frag} {σ : L2.St} {H : Hp} {Q : Bool → Hp → Prop} {i j : Nat} {y : V} {e : PyData} {l : Addr} {xs : List V} (h1 : σ[i]? = some (some y)) (h3 : σ[j]? = some (some (.ref l))) (ry : Rep K H y e) (hl : H l = some (.lst xs)) (q : Q (!within e 0 ((xs.length : Int) - 1)) H) :
    tOr1 (tB (tCB (rIsi K) (tCons (tVar i) (tCons (tC (.ty "bool")) tNil)))) (tOr1 (tNot (tB (tCB (rIsi K) (tCons (tVar i) (tCons (tC (.ty "int")) tNil)))))
      (tOr1 (tNot (tTest (tChain (rI0 fun i j => .bl (decide (i ≤ j))) (rI0 fun i j => .bl (decide (i < j))) (tC (.int 0)) (tVar i) (tCB (fun xs H Q => ∃ p ys, xs = [.ref p] ∧ (SqL K H p ys ∨ SqT K H p ys) ∧ Q (.int ys.length) H) (tCons (tVar j) tNil))))) tOr0)) σ H Q := by
  refine test_int h1 ry (fun z => by rw [within_not z] at q; exact q) fun n ef ex => ?_
  subst ef ex
  refine ⟨_, h1, _, _, rfl, rfl, _, rfl, ?_⟩
  by_cases c : 0 ≤ n
  · rw [decide_eq_true c]
    refine ⟨_, h3, l, xs, rfl, .inl (SqL.of hl), _, _, rfl, rfl, _, rfl, ?_⟩
    have e : decide (n < (xs.length : Int)) = within (.int n) 0 ((xs.length : Int) - 1) := by
      simp only [within, c, decide_true, Bool.true_and, decide_eq_decide]
      omega
    rw [e]
    cases hw : within (.int n) 0 ((xs.length : Int) - 1) with
    | true =>
      rw [hw] at q
      exact q
    | false =>
      rw [hw] at q
      exact q
  · rw [decide_eq_false c]
    have e : within (.int n) 0 ((xs.length : Int) - 1) = false := by simp [within, c]
    rw [e] at q
    exact ⟨_, rfl, q⟩
/-- starts, by the days of the first hour and the last -/
theorem mem_starts {ns : List Int} (ok : OkN ns) {len : Int} {h : Int} (l1 : 1 ≤ len) (h0 : 0 ≤ h) (h1 : h < ns.sum) : h ∈ starts ns len ↔ h + len ≤ ns.sum ∧ dayAt ns h = dayAt ns (h + len - 1) := by
  unfold starts
  rw [mem_pre]
  obtain ⟨d1, d2, d3⟩ := dayAt_spec ok.all h0 h1
  constructor
  · rintro ⟨j, hj, j1, j2⟩
    have top := ahead_mono ok.all (i := j + 1) (j := ns.length) (by omega) (Nat.le_refl _)
    rw [ahead_all] at top
    have in1 : h + len ≤ ns.sum := by omega
    obtain ⟨f1, f2, f3⟩ := dayAt_spec (h := h + len - 1) ok.all (by omega) (by omega)
    refine ⟨in1, ?_⟩
    have uq : ∀ (k : Nat) (g : Int), k < ns.length → ahead ns k ≤ g → g < ahead ns (k + 1) → ahead ns j ≤ g → g < ahead ns (j + 1) → k = j := by
      intro k g hk a1 a2 a3 a4
      rcases Nat.lt_trichotomy k j with z | z | z
      · have := ahead_mono ok.all (i := k + 1) (j := j) (by omega) (by omega)
        omega
      · exact z
      · have := ahead_mono ok.all (i := j + 1) (j := k) (by omega) (by omega)
        omega
    rw [uq _ h d1 d2 d3 (by omega) (by omega), uq _ (h + len - 1) f1 f2 f3 (by omega) (by omega)]
  · rintro ⟨in1, e⟩
    obtain ⟨f1, f2, f3⟩ := dayAt_spec (h := h + len - 1) ok.all (by omega) (by omega)
    rw [← e] at f3
    exact ⟨dayAt ns h, d1, d2, by omega⟩
section
variable {P : Program} {w : World} {K : PySem.W.Frag} {mg : Str → Option Value} {base : Heap} {T : List (Addr × Str)} {PG D S M N HE : Addr}
theorem scHeldRight : FnScope nHe ["days_so", "long_so", "first"] (defScope sHeldRight) := ⟨rfl, rfl, rfl, by decide +kernel, rfl, by decide +kernel, by decide +kernel⟩
def qHe : Str := (envOfC "_law_held_right" (defScope sHeldRight) 0 0 .none).qual ++ "<lambda>"
theorem def_heldRight (L : Lw P w K mg base T PG D S M N HE) {PL : Addr} (F : AtC K mg base "_law_held_right" sHeldRight ["days_so", "long_so", "first"] PL) (mq : (PL, qHe) ∈ T) (uq : ∀ p ∈ T, p.1 = PL → p.2 = qHe) (mG : (PG, qG) ∈ T) :
    DefG P w K mg base 11 "_law_held_right" ["days_so", "long_so", "first"] (spHeldRight K T PG) := by
  refine F.okG scHeldRight (fun vs H Q E h => ?_) (fun fa c A outer s H vs Q E tb hgd hr h => ?_)
  · obtain ⟨a, ns, x, y, f, e, rfl, _⟩ := h
    rfl
  · obtain ⟨a, ns, x, y, f, e, rfl, ha, ok, tg, rx, ry, sf, se, q⟩ := h
    refine ⟨_, pss_cons (ps_par (i := 3) (j := 4) rfl scHeldRight.nd rfl rfl (by decide) (by rfl) (by rfl) (pa_cons (pe_def L.listed (hr.mono (by decide)) (by rfl) pass0 (pa_cons (pv 0) pa_nil)) (pa_cons (pe_lst (pa_cons pe_int (pa_cons pe_int (pa_cons pe_int (pa_cons pe_int pa_nil))))) pa_nil)) (by rfl))
      (pss_cons (ps_set (i := 5) scHeldRight.nd rfl (Or.inl rfl) (pe_heard (k := 8) L.et L.heard (by rfl) tb rfl mq uq hr (lamS_by (sc := defScope sHeldRight) (by decide +kernel)) (by rfl) (fun _ _ _ _ _ => by rfl)
              (fun A2 outer2 s2 H2 E2 f2 c2 hr2 => pe_def (E := E2) L.held hr2 (by rfl) (passes_call (takes_of rfl rfl rfl rfl) fun _ _ _ _ h => h) (pa_cons (pv 0) (pa_cons (pv 1) (pa_cons (pv 2) pa_nil))))))
      (pss_cons (ps_if (pt_or (po_cons (pt_val (pe_callB call_isi (by rfl) L.bl.isi sIns (pa_cons (pv 1) (pa_cons (pe_ty (by rfl) L.bl.bool sBool) pa_nil)))) (po_cons (pt_not (pt_val (pe_callB call_isi (by rfl) L.bl.isi sIns (pa_cons (pv 1) (pa_cons (pe_ty (by rfl) L.bl.int sInt) pa_nil))))) (po_cons (pt_cmpR op_notIn_seq (pv 1) (pv 4) rfl) po_nil))))
          (pss_one (ps_ret (pe_defG L.like hgd (hr.mono (by decide)) (by rfl) (pa_cons (pv 5) (pa_cons (pe_tup (pa_cons pe_str (pa_cons (pv 1) (pa_cons pe_bl pa_nil)))) pa_nil))))) pss_nil)
      (pss_cons (ps_if (pt_or (po_cons (pt_val (pe_callB call_isi (by rfl) L.bl.isi sIns (pa_cons (pv 2) (pa_cons (pe_ty (by rfl) L.bl.bool sBool) pa_nil)))) (po_cons (pt_not (pt_val (pe_callB call_isi (by rfl) L.bl.isi sIns (pa_cons (pv 2) (pa_cons (pe_ty (by rfl) L.bl.int sInt) pa_nil)))))
            (po_cons (pt_not (pt_chain op_le op_lt pe_int (pv 2) (pe_callB call_len_seq (by rfl) L.bl.len sLen (pa_cons (pv 3) pa_nil)))) po_nil))))
          (pss_one (ps_ret (pe_defG L.like hgd (hr.mono (by decide)) (by rfl) (pa_cons (pv 5) (pa_cons (pe_tup (pa_cons pe_str (pa_cons (pv 2) (pa_cons pe_bl pa_nil)))) pa_nil))))) pss_nil)
      (pss_cons (ps_if (pt_or (po_cons (pt_cmpR op_gt (pe_op op_add (pv 2) (pv 1)) (pe_callB call_len_seq (by rfl) L.bl.len sLen (pa_cons (pv 3) pa_nil)) (nomark _)) (po_cons (pt_cmpR op_ne (pe_ix ix_list (pv 3) (pv 2) (by intro _ _; rfl)) (pe_ix ix_list (pv 3) (pe_op op_sub (pe_op op_add (pv 2) (pv 1)) pe_int) (by intro _ _; rfl)) (nomark _)) po_nil)))
          (pss_one (ps_ret (pe_defG L.like hgd (hr.mono (by decide)) (by rfl) (pa_cons (pv 5) (pa_cons (pe_tup (pa_cons pe_str (pa_cons pe_bl (pa_cons pe_bl pa_nil)))) pa_nil))))) pss_nil)
      (pss_one (ps_ret (pe_defG L.like hgd (hr.mono (by decide)) (by rfl) (pa_cons (pv 5) (pa_cons (pe_tup (pa_cons pe_str (pa_cons (pe_callTy (r := rTupOf K) call_tuple_of (by rfl) L.bl.tup sTup (pa_cons
          (pe_lc (own := [("step", 6)]) (g := gName 6) (tt := tYes) rfl scHeldRight.nd (pi_range1 (by rfl) L.bl.rng (pa_cons (pv 1) pa_nil)) (blkOk_by (N := nHe) (sc := defScope sHeldRight) (by decide +kernel)) (fun _ _ _ _ _ => pg_name (i := 6) scHeldRight.nd rfl (Or.inl rfl)) (fun _ _ _ _ _ => pts_nil)
            (fun _ _ _ _ _ => pe_op op_add (pv 2) (pv 6))) pa_nil)) pa_nil))) pa_nil))))))))), ?_⟩
    have g0 := Gr.refl (T := T) (PG := PG) tg
    have hs := ok.sum
    have hln := lis_len ok
    refine ⟨_, rfl, a, ns, rfl, ha, ok, fun l H1 s1 nl hl1 => ⟨by show 4 ≤ sizeLine; decide, fun gd hgd2 => ⟨.ref l, .ref gd, rfl, ?_⟩⟩⟩
    have g2 := (g0.same s1).new (o := .lst [.int 1, .int 2, .int 3, .int 4]) hgd2
    have hl2 := ((Gr.refl (g0.same s1).tb).new (o := .lst [.int 1, .int 2, .int 3, .int 4]) hgd2).lst hl1
    have hg2 : upd H1 gd (.lst [.int 1, .int 2, .int 3, .int 4]) gd = some (.lst [.int 1, .int 2, .int 3, .int 4]) := upd_same
    generalize upd H1 gd (.lst [.int 1, .int 2, .int 3, .int 4]) = H2 at g2 hl2 hg2 ⊢
    clear hgd2 s1 hl1 nl
    clear H1
    have len1 : ((((lis ns).map V.int).length : Nat) : Int) = ns.sum := by rw [List.length_map]; exact hln
    cases hf : within f 1 4 with
    | false =>
      refine heard_ref mG g2.tb (fun dd H' h => .par rfl rfl h) (C := M) (y := x) (fun H3 E3 Q3 g3 rf => ?_) fun p H3 g3 hp => ?_
      · have g4 := g2.trans g3
        exact ⟨_, rfl, _, rfl, _, rfl, .ref a, _, x, f, y, e, rfl, rx.ext g4.ext, ry.ext g4.ext, .of (g4.sqt ha) ok g4.tb ⟨fun _ => rf, fun z => (by rw [hf] at z; cases z), fun len h z _ l1 l2 _ _ => (by rw [z, within_yes l1 l2] at hf; cases hf)⟩⟩
      · have g4 := g2.trans g3
        refine test_long rfl rfl (rx.ext g4.ext) (g3.lst hg2) ?_
        rw [hf]
        refine ⟨_, rfl, _, rfl, by show 3 ≤ sizeLine; decide, fun p2 hp2 => ?_⟩
        exact like_tup g4 hp (.cons (.str _) (.cons (rx.ext g4.ext) (.cons (.bl _) .nil))) hp2 (shw3 shw_par sf) q
    | true =>
      cases he : within e 0 (ns.sum - 1) with
      | false =>
        refine heard_ref mG g2.tb (fun dd H' h => .par rfl rfl h) (C := M) (y := y) (fun H3 E3 Q3 g3 rf => ?_) fun p H3 g3 hp => ?_
        · have g4 := g2.trans g3
          exact ⟨_, rfl, _, rfl, _, rfl, .ref a, _, x, f, y, e, rfl, rx.ext g4.ext, ry.ext g4.ext, .of (g4.sqt ha) ok g4.tb ⟨fun z => (by rw [hf] at z; cases z), fun _ _ => rf, fun len h _ z _ _ h0 h1 => (by rw [z, within_yes h0 (by omega)] at he; cases he)⟩⟩
        · have g4 := g2.trans g3
          refine test_long rfl rfl (rx.ext g4.ext) (g3.lst hg2) ?_
          rw [hf]
          refine test_first rfl rfl (ry.ext g4.ext) (g3.lst hl2) ?_
          rw [len1, he]
          refine ⟨_, rfl, _, rfl, by show 3 ≤ sizeLine; decide, fun p2 hp2 => ?_⟩
          exact like_tup g4 hp (.cons (.str _) (.cons (ry.ext g4.ext) (.cons (.bl _) .nil))) hp2 (shw3 shw_par se) q
      | true =>
        obtain ⟨len, rfl, l1, l2⟩ := within_int hf
        obtain ⟨h, rfl, h0, h1⟩ := within_int he
        cases rx
        cases ry
        have h1' : h < ns.sum := by omega
        have hn : ∀ g : Int, 0 ≤ g → g < ns.sum → atI ((lis ns).map V.int) g = some (.int (dayAt ns g : Nat)) := fun g g0 g1 => by
          obtain ⟨k, rfl⟩ : ∃ k : Nat, g = (k : Int) := ⟨g.toNat, by omega⟩
          have := (lis_get ok (h := k) (by omega)).1
          exact atI_nat (by rw [List.getElem?_map, this]; rfl)
        have iff := mem_starts ok l1 h0 h1'
        by_cases hm : h ∈ starts ns len
        · obtain ⟨i1, i2⟩ := iff.mp hm
          refine heard_is (fun v H' => ∃ p, v = .ref p ∧ H' p = some (.tup ((rgI h (h + len)).map V.int))) mG g2.tb (fun H3 E3 Q3 g3 cont => ?_) fun v p H3 g3 ⟨r, ev, hr3⟩ hp => ?_
          · have g4 := g2.trans g3
            refine ⟨_, rfl, _, rfl, _, rfl, .ref a, _, _, _, _, _, rfl, .int _, .int _, .of (g4.sqt ha) ok g4.tb ⟨fun z => (by rw [hf] at z; cases z), fun _ z => (by rw [he] at z; cases z), fun len' h' z1 z2 _ _ _ _ => ?_⟩⟩
            cases z1
            cases z2
            refine ⟨fun z => absurd hm z, fun _ H' p g hp => cont _ H' g ⟨p, rfl, by rw [rgV_eq] at hp; exact hp⟩⟩
          · subst ev
            have g4 := (g2.trans g3).new (o := .tup [.str "is", .ref r]) hp
            have nrp : r ≠ p := fun z => by rw [z, hp] at hr3; cases hr3
            have hr4 : upd H3 p (.tup [.str "is", .ref r]) r = some (.tup ((rgI h (h + len)).map V.int)) := by rw [upd_ne nrp]; exact hr3
            have hp4 : upd H3 p (.tup [.str "is", .ref r]) p = some (.tup [.str "is", .ref r]) := upd_same
            have hl4 := ((Gr.refl (g2.trans g3).tb).new (o := .tup [.str "is", .ref r]) hp).lst (g3.lst hl2)
            have hg4 := ((Gr.refl (g2.trans g3).tb).new (o := .tup [.str "is", .ref r]) hp).lst (g3.lst hg2)
            generalize upd H3 p (.tup [.str "is", .ref r]) = H4 at g4 hr4 hp4 hl4 hg4 ⊢
            refine test_long rfl rfl (.int _) hg4 ?_
            rw [hf]
            refine test_first rfl rfl (.int _) hl4 ?_
            rw [len1, he]
            refine ⟨_, rfl, _, rfl, _, _, rfl, rfl, _, rfl, l, _, rfl, .inl (SqL.of hl4), _, _, rfl, rfl, _, rfl, ?_⟩
            rw [decide_eq_false (show ¬ (((lis ns).map V.int).length : Int) < h + len by omega)]
            refine ⟨_, rfl, _, rfl, l, _, h, _, rfl, rfl, SqL.of hl4, hn h h0 h1', ?_⟩
            refine ⟨_, rfl, _, rfl, _, rfl, _, _, rfl, rfl, _, _, rfl, rfl, l, _, _, _, rfl, rfl, SqL.of hl4, hn (h + len - 1) (by omega) (by omega), rfl, _, rfl, ?_⟩
            rw [← i2, decide_eq_true rfl]
            -- the tuple that is due
            refine ⟨_, rfl, _, rfl, _, rfl, by omega, by omega, fun D3 hD3 => ?_⟩
            refine lc_range (fun k H' => Gr T PG H4 H' ∧ H' D3 = some (.lst ((rgI h (h + (k : Nat))).map V.int))) ?_ ?_ ?_
            · refine ⟨(Gr.refl g4.tb).new hD3, ?_⟩
              rw [upd_same]
              have e0 : rgI h (h + ((0 : Nat) : Int)) = [] := by
                unfold rgI
                rw [show (h + ((0 : Nat) : Int) - h).toNat = 0 by omega]
                rfl
              rw [e0]
              rfl
            · rintro k H' hk ⟨g5, h5⟩
              refine ⟨rfl, yes ?_⟩
              rw [if_pos rfl]
              refine ⟨_, rfl, _, rfl, _, _, rfl, rfl, _, h5, by rw [sizeLine_eq, List.length_map, len_rgI]; omega, g5.mut hD3 h5, ?_⟩
              have e1 : rgI h (h + ((k + 1 : Nat) : Int)) = rgI h (h + (k : Nat)) ++ [h + (0 + (k : Nat))] := by
                unfold rgI
                rw [show (h + ((k + 1 : Nat) : Int) - h).toNat = (h + ((k : Nat) : Int) - h).toNat + 1 by omega, List.range_succ, List.map_append]
                simp
                omega
              rw [upd_same, e1, List.map_append]
              rfl
            · rintro H5 ⟨g5, h5⟩
              rw [show h + ((len.toNat : Nat) : Int) = h + len by omega] at h5
              refine ⟨D3, _, rfl, .inl ⟨SqL.of h5, fun t ht => ⟨by show 2 ≤ sizeLine; decide, fun p2 hp2 => ?_⟩⟩⟩
              have g6 := g5.new (o := .tup ((rgI h (h + len)).map V.int)) ht
              refine like_tup2 (ds := [.str "is", .tuple ((rgI h (h + len)).map .int)]) (g4.trans g6) (g6.tup hp4) (.cons (.str _) (.cons (.tup (.inl (.inl (g6.tup hr4))) (.ints _)) .nil)) (.cons (.str _) (.cons (.tup (.inl (.inl upd_same)) (.ints _)) .nil)) hp2 (shw2 shw_is ?_) q
              refine (shw_intsT (n := 3000) (fun i hi => ?_) (by rw [len_rgI]; omega)).mono (by decide) (by decide)
              have := mem_rgI.mp hi
              omega
        · refine heard_row mG g2.tb (fun H3 E3 Q3 g3 cont => ?_) fun p H3 g3 hp => ?_
          · have g4 := g2.trans g3
            refine ⟨_, rfl, _, rfl, _, rfl, .ref a, _, _, _, _, _, rfl, .int _, .int _, .of (g4.sqt ha) ok g4.tb ⟨fun z => (by rw [hf] at z; cases z), fun _ z => (by rw [he] at z; cases z), fun len' h' z1 z2 _ _ _ _ => ?_⟩⟩
            cases z1
            cases z2
            exact ⟨fun _ => cont, fun z => absurd z hm⟩
          · have g4 := g2.trans g3
            have hl4 := g3.lst hl2
            refine test_long rfl rfl (.int _) (g3.lst hg2) ?_
            rw [hf]
            refine test_first rfl rfl (.int _) hl4 ?_
            rw [len1, he]
            have shN : Shw (.tuple [.str "none", .bool true, .bool true]) 20000 6 := shw3 shw_none ((shw_bl true).mono (by decide) (by decide))
            have fin : ∀ p2, H3 p2 = none → spLike K [.ref p, .ref p2] (upd H3 p2 (.tup [.str "none", .bl true, .bl true])) Q E0 := fun p2 hp2 => like_tup g4 hp (.cons (.str _) (.cons (.bl _) (.cons (.bl _) .nil))) hp2 shN q
            refine ⟨_, rfl, _, rfl, _, _, rfl, rfl, _, rfl, l, _, rfl, .inl (SqL.of hl4), _, _, rfl, rfl, _, rfl, ?_⟩
            by_cases c1 : (((lis ns).map V.int).length : Int) < h + len
            · rw [decide_eq_true c1]
              exact ⟨_, rfl, by show 3 ≤ sizeLine; decide, fin⟩
            · rw [decide_eq_false c1]
              have i2 : dayAt ns h ≠ dayAt ns (h + len - 1) := fun z => hm (iff.mpr ⟨by omega, z⟩)
              refine ⟨_, rfl, _, rfl, l, _, h, _, rfl, rfl, SqL.of hl4, hn h h0 h1', ?_⟩
              refine ⟨_, rfl, _, rfl, _, rfl, _, _, rfl, rfl, _, _, rfl, rfl, l, _, _, _, rfl, rfl, SqL.of hl4, hn (h + len - 1) (by omega) (by omega), rfl, _, rfl, ?_⟩
              rw [decide_eq_false (fun z => i2 (by injection z with z; omega))]
              exact ⟨_, rfl, by show 3 ≤ sizeLine; decide, fin⟩
end
end K0
set_option Elab.async false
set_option linter.all false
set_option maxRecDepth 100000
set_option maxHeartbeats 4000000
/-! P12: the law's odd_days. -/
namespace K0
open PySem PySem.Spec PyProof.Rows L2 BK LamX
def spOddDays (T : List (Addr × Str)) (PG : Addr) : Sp := fun vs H Q _ => vs = [] ∧ Tb T PG H ∧ ∀ H', Gr T PG H H' → Q (.bl true) H'
def nOd : List Str := ["odd", "got"]
/-- got.append(_law_heard(..)), days refused -/
theorem app_days {K : PySem.W.Frag} {T : List (Addr × Str)} {PG D S M N l : Addr} {t : XK → TE} {σ : L2.St} {Ha Hk : Hp} {Q : VK} {x : V} {acc : List V} (mG : (PG, qG) ∈ T) (h1 : σ[1]? = some (some (.ref l))) (g : Gr T PG Ha Hk) (h0 : Ha l = none) (hl : Hk l = some (.lst acc)) (ln : acc.length ≤ 10)
    (al : ∀ v ∈ acc, ∃ t, v = V.ref t ∧ Hk t = some (.tup [.str "days", x, .bl true])) (ht : ∀ (H1 : Hp) (E : XK) (Q1 : VK), Gr T PG Hk H1 → Ref T PG D x H1 E → t E σ H1 Q1)
    (q : ∀ (H' : Hp) (v : V), Gr T PG Ha H' → H' l = some (.lst (acc ++ [v])) → (∀ u ∈ acc ++ [v], ∃ t, u = V.ref t ∧ H' t = some (.tup [.str "days", x, .bl true])) → Q .non H') :
    tBM K "list" rAppend (tVar 1) (tCons (tLam T (THeard D S M N) t) tNil) σ Hk Q := by
  refine ⟨_, h1, .inl ⟨rfl, _, SqL.of hl⟩, heard_ref mG g.tb (fun dd H' h => .days rfl rfl h) ht fun p H' g2 hp => ?_⟩
  have hl2 := g2.lst hl
  refine ⟨l, acc, .ref p, rfl, rfl, hl2, by rw [sizeLine_eq]; omega, q _ (.ref p) ((g.trans g2).mut h0 hl2) upd_same fun u hu => ?_⟩
  have keep : ∀ t, H' t = some (.tup [.str "days", x, .bl true]) → upd H' l (.lst (acc ++ [.ref p])) t = some (.tup [.str "days", x, .bl true]) := fun t e => by
    rw [upd_ne (fun z => by rw [z, hl2] at e; cases e)]
    exact e
  rcases List.mem_append.mp hu with hu | hu
  · obtain ⟨t, rfl, e⟩ := al u hu
    exact ⟨t, rfl, keep t (g2.tup e)⟩
  · simp only [List.mem_cons, List.not_mem_nil, or_false] at hu
    subst hu
    exact ⟨p, rfl, keep p hp⟩
theorem all_days {K : PySem.W.Frag} {H : Hp} {x : V} {d : PyData} (rx : Rep K H x d) : ∀ {us : List V}, (∀ u ∈ us, ∃ t, u = V.ref t ∧ H t = some (.tup [.str "days", x, .bl true])) → RepAll K H us (List.replicate us.length (.tuple [.str "days", d, .bool true]))
  | [], _ => .nil
  | u :: us, h => by
    obtain ⟨t, rfl, e⟩ := h u (List.mem_cons_self ..)
    exact .cons (.tup (.inl (.inl e)) (.cons (.str _) (.cons rx (.cons (.bl _) .nil)))) (all_days rx fun v hv => h v (List.mem_cons_of_mem _ hv))
section
variable {P : Program} {w : World} {K : PySem.W.Frag} {mg : Str → Option Value} {base : Heap} {T : List (Addr × Str)} {PG D S M N HE : Addr}
theorem scOddDays : FnScope nOd [] (defScope sOddDays) := ⟨rfl, rfl, rfl, by decide +kernel, rfl, by decide +kernel, by decide +kernel⟩
def qOd : Str := (envOfC "_law_odd_days" (defScope sOddDays) 0 0 .none).qual ++ "<lambda>"
theorem def_oddDays (L : Lw P w K mg base T PG D S M N HE) {PL : Addr} (F : AtC K mg base "_law_odd_days" sOddDays [] PL) (mq : (PL, qOd) ∈ T) (uq : ∀ p ∈ T, p.1 = PL → p.2 = qOd) (mG : (PG, qG) ∈ T) :
    DefG P w K mg base 11 "_law_odd_days" [] (spOddDays T PG) := by
  refine F.okG scOddDays (fun vs H Q E h => ?_) (fun fa c A outer s H vs Q E tb hgd hr h => ?_)
  · obtain ⟨rfl, _⟩ := h
    rfl
  · obtain ⟨rfl, tg, q⟩ := h
    refine ⟨_, pss_cons (ps_for PassesOwn.never rfl (pi_tup (pe_tup (pa_cons (pe_tup pa_nil) (pa_cons (pe_tup (pa_cons pe_int pa_nil)) (pa_cons (pe_tup (pa_cons pe_int pa_nil)) (pa_cons (pe_op op_repT (pe_tup (pa_cons pe_int pa_nil)) pe_int)
          (pa_cons (pe_lst (pa_cons pe_int pa_nil)) (pa_cons (pe_tup (pa_cons pe_int (pa_cons pe_bl pa_nil))) (pa_cons (pe_tup (pa_cons pe_int (pa_cons pe_non pa_nil))) (pa_cons pe_non (pa_cons pe_int (pa_cons (pe_tup (pa_cons pe_str pa_nil))
          (pa_cons (pe_tup (pa_cons pe_int (pa_cons (pe_un un_neg pe_int) pa_nil))) pa_nil))))))))))))) (pg_name (i := 0) scOddDays.nd rfl (Or.inr rfl))
        (pss_cons (ps_set (i := 1) scOddDays.nd rfl (Or.inl rfl) (pe_lst (pa_cons (pe_heard (k := 8) L.et L.heard (by rfl) tb rfl mq uq hr (lamS_by (sc := defScope sOddDays) (by decide +kernel)) (by rfl) (fun _ _ _ _ _ => by rfl)
              (fun A2 outer2 s2 H2 E2 f2 c2 hr2 => pe_def (E := E2) L.needDays (hr2.mono (by decide)) (by rfl) (passes_call (takes_of rfl rfl rfl rfl) fun _ _ _ _ h => h) (pa_cons (pv 0) pa_nil))) pa_nil)))
        (pss_cons (ps_expr (pe_bm PySem.F.plainAttrs_list PySem.F.slot_list_append PySem.F.type_list_append mt_append (pv 1) (pa_cons (pe_heard (k := 8) L.et L.heard (by rfl) tb rfl mq uq hr (lamS_by (sc := defScope sOddDays) (by decide +kernel)) (by rfl) (fun _ _ _ _ _ => by rfl)
              (fun A2 outer2 s2 H2 E2 f2 c2 hr2 => pe_def (E := E2) L.hoursIn (hr2.mono (by decide)) (by rfl) (passes_call (takes_of rfl rfl rfl rfl) fun _ _ _ _ h => h) (pa_cons (pv 0) pa_nil))) pa_nil)))
        (pss_cons (ps_expr (pe_bm PySem.F.plainAttrs_list PySem.F.slot_list_append PySem.F.type_list_append mt_append (pv 1) (pa_cons (pe_heard (k := 8) L.et L.heard (by rfl) tb rfl mq uq hr (lamS_by (sc := defScope sOddDays) (by decide +kernel)) (by rfl) (fun _ _ _ _ _ => by rfl)
              (fun A2 outer2 s2 H2 E2 f2 c2 hr2 => pe_def (E := E2) L.dayOf (hr2.mono (by decide)) (by rfl) (passes_call (takes_of rfl rfl rfl rfl) fun _ _ _ _ h => h) (pa_cons (pv 0) (pa_cons pe_non pa_nil)))) pa_nil)))
        (pss_cons (ps_expr (pe_bm PySem.F.plainAttrs_list PySem.F.slot_list_append PySem.F.type_list_append mt_append (pv 1) (pa_cons (pe_heard (k := 8) L.et L.heard (by rfl) tb rfl mq uq hr (lamS_by (sc := defScope sOddDays) (by decide +kernel)) (by rfl) (fun _ _ _ _ _ => by rfl)
              (fun A2 outer2 s2 H2 E2 f2 c2 hr2 => pe_def (E := E2) L.dayHours (hr2.mono (by decide)) (by rfl) (passes_call (takes_of rfl rfl rfl rfl) fun _ _ _ _ h => h) (pa_cons (pv 0) (pa_cons pe_non pa_nil)))) pa_nil)))
        (pss_cons (ps_expr (pe_bm PySem.F.plainAttrs_list PySem.F.slot_list_append PySem.F.type_list_append mt_append (pv 1) (pa_cons (pe_heard (k := 8) L.et L.heard (by rfl) tb rfl mq uq hr (lamS_by (sc := defScope sOddDays) (by decide +kernel)) (by rfl) (fun _ _ _ _ _ => by rfl)
              (fun A2 outer2 s2 H2 E2 f2 c2 hr2 => pe_def (E := E2) L.held (hr2.mono (by decide)) (by rfl) (passes_call (takes_of rfl rfl rfl rfl) fun _ _ _ _ h => h) (pa_cons (pv 0) (pa_cons pe_non (pa_cons pe_non pa_nil))))) pa_nil)))
        (pss_one (ps_if (pt_not (pt_val (pe_defG L.like hgd (hr.mono (by decide)) (by rfl) (pa_cons (pv 1) (pa_cons (pe_op op_rep (pe_lst (pa_cons (pe_tup (pa_cons pe_str (pa_cons (pv 0) (pa_cons pe_bl pa_nil)))) pa_nil)) pe_int) pa_nil)))))
          (pss_one (ps_ret pe_bl)) pss_nil))))))))
      (pss_one (ps_ret pe_bl)), ?_⟩
    have g0 := Gr.refl (T := T) (PG := PG) tg
    refine ⟨Nat.zero_le _, fun p1 h1 => ?_⟩
    have g1 := g0.new (o := .tup []) h1
    have r1 : RepAll K (upd H p1 (.tup [])) [.ref p1] [.tuple []] := .cons (.tup (.inl (.inl upd_same)) .nil) .nil
    generalize upd H p1 (.tup []) = H1 at g1 r1 ⊢
    refine ⟨by show 1 ≤ sizeLine; decide, fun p2 h2 => ?_⟩
    have g2 := g1.new (o := .tup [.int 0]) h2
    have r2 := (r1.ext (ext_new (o := .tup [.int 0]) h2)).append (.cons (.tup (.inl (.inl upd_same)) (.cons (.int 0) .nil)) .nil)
    generalize upd H1 p2 (.tup [.int 0]) = H2 at g2 r2 ⊢
    refine ⟨by show 1 ≤ sizeLine; decide, fun p3 h3 => ?_⟩
    have g3 := g2.new (o := .tup [.int 13]) h3
    have r3 := (r2.ext (ext_new (o := .tup [.int 13]) h3)).append (.cons (.tup (.inl (.inl upd_same)) (.cons (.int 13) .nil)) .nil)
    generalize upd H2 p3 (.tup [.int 13]) = H3 at g3 r3 ⊢
    refine ⟨by show 1 ≤ sizeLine; decide, fun p4 h4 => ?_⟩
    refine ⟨p4, 8, _, rfl, rfl, .inl (.inl upd_same), (by simp), by decide, by decide, (by simp), fun p5 h5 => ?_⟩
    have g4 := (g3.new (o := .tup [.int 1]) h4).new (o := .tup (List.replicate (8 : Int).toNat [V.int 1]).flatten) h5
    have r4 := ((r3.ext (ext_new (o := .tup [.int 1]) h4)).ext (ext_new (o := .tup (List.replicate (8 : Int).toNat [V.int 1]).flatten) h5)).append (.cons (.tup (.inl (.inl upd_same)) (RepAll.ints [1, 1, 1, 1, 1, 1, 1, 1])) .nil)
    generalize upd (upd H3 p4 (.tup [.int 1])) p5 (.tup (List.replicate (8 : Int).toNat [V.int 1]).flatten) = H4 at g4 r4 ⊢
    refine ⟨by show 1 ≤ sizeLine; decide, fun p6 h6 => ?_⟩
    have g5 := g4.new (o := .lst [.int 3]) h6
    have r5 := (r4.ext (ext_new (o := .lst [.int 3]) h6)).append (.cons (.lst (SqL.of upd_same) (.cons (.int 3) .nil)) .nil)
    generalize upd H4 p6 (.lst [.int 3]) = H5 at g5 r5 ⊢
    refine ⟨by show 2 ≤ sizeLine; decide, fun p7 h7 => ?_⟩
    have g6 := g5.new (o := .tup [.int 3, .bl true]) h7
    have r6 := (r5.ext (ext_new (o := .tup [.int 3, .bl true]) h7)).append (.cons (.tup (.inl (.inl upd_same)) (.cons (.int 3) (.cons (.bl true) .nil))) .nil)
    generalize upd H5 p7 (.tup [.int 3, .bl true]) = H6 at g6 r6 ⊢
    refine ⟨by show 2 ≤ sizeLine; decide, fun p8 h8 => ?_⟩
    have g7 := g6.new (o := .tup [.int 3, .non]) h8
    have r7 := (r6.ext (ext_new (o := .tup [.int 3, .non]) h8)).append (.cons (.tup (.inl (.inl upd_same)) (.cons (.int 3) (.cons .non .nil))) (.cons .non (.cons (.int 3) .nil)))
    generalize upd H6 p8 (.tup [.int 3, .non]) = H7 at g7 r7 ⊢
    refine ⟨by show 1 ≤ sizeLine; decide, fun p9 h9 => ?_⟩
    have g8 := g7.new (o := .tup [.str "3"]) h9
    have r8 := (r7.ext (ext_new (o := .tup [.str "3"]) h9)).append (.cons (.tup (.inl (.inl upd_same)) (.cons (.str "3") .nil)) .nil)
    generalize upd H7 p9 (.tup [.str "3"]) = H8 at g8 r8 ⊢
    refine ⟨_, rfl, by show 2 ≤ sizeLine; decide, fun p10 h10 => ?_⟩
    have g9 := g8.new (o := .tup [.int 3, .int (-1)]) h10
    have r9 := (r8.ext (ext_new (o := .tup [.int 3, .int (-1)]) h10)).append (.cons (.tup (.inl (.inl upd_same)) (.cons (.int 3) (.cons (.int (-1)) .nil))) .nil)
    generalize upd H8 p10 (.tup [.int 3, .int (-1)]) = H9 at g9 r9 ⊢
    refine ⟨by show 11 ≤ sizeLine; decide, fun p11 h11 => ?_⟩
    let xs : List V := [.ref p1, .ref p2, .ref p3, .ref p5, .ref p6, .ref p7, .ref p8, .non, .int 3, .ref p9, .ref p10]
    let ds : List PyData := [.tuple [], .tuple [.int 0], .tuple [.int 13], .tuple [.int 1, .int 1, .int 1, .int 1, .int 1, .int 1, .int 1, .int 1], .list [.int 3], .tuple [.int 3, .bool true], .tuple [.int 3, .none], .none, .int 3, .tuple [.str "3"], .tuple [.int 3, .int (-1)]]
    have r9' : RepAll K H9 xs ds := r9
    refine ⟨p11, rfl, ⟨xs, .inl (.inl upd_same)⟩, ?_⟩
    have g10 := g9.new (o := .tup xs) h11
    have r10 := r9'.ext (ext_new (o := .tup xs) h11)
    have hp11 : upd H9 p11 (.tup xs) p11 = some (.tup xs) := upd_same
    show ∃ W : Nat → Nat → L2.St → Hp → Prop, (∃ m, W 0 m _ (upd H9 p11 (.tup xs))) ∧ _
    generalize upd H9 p11 (.tup xs) = H10 at g10 r10 hp11 ⊢
    refine for_tup (K := K) (a := p11) (xs := xs) (fun i σ H' => ∃ o o2, Gr T PG H10 H' ∧ σ = [o, o2]) ?_ ?_ ?_ ?_
    · exact ⟨none, none, .refl g10.tb, rfl⟩
    · rintro i σ H' _ ⟨_, _, g, _⟩
      exact .inl (.inl (g.tup hp11))
    · rintro i x σ Hb hx ⟨o, o2, g, rfl⟩
      obtain ⟨d, hd, rx0⟩ := rep_at r10 hx
      have rx := rx0.ext g.ext
      have md : d ∈ ds := List.mem_of_getElem? hd
      have gb := g10.trans g
      have no : isDays d = false ∧ flat d = true := by
        simp only [ds, List.mem_cons, List.not_mem_nil, or_false] at md
        rcases md with rfl | rfl | rfl | rfl | rfl | rfl | rfl | rfl | rfl | rfl | rfl <;> exact ⟨by decide, by decide⟩
      have sd : Shw d 3000 5 := by
        simp only [ds, List.mem_cons, List.not_mem_nil, or_false] at md
        rcases md with rfl | rfl | rfl | rfl | rfl | rfl | rfl | rfl | rfl | rfl | rfl <;> exact ⟨⟨by decide +kernel, by decide +kernel, by decide +kernel⟩, by decide +kernel⟩
      have days : ∀ (H1 : Hp) (E1 : XK) (C : List Int → Prop), Gr T PG Hb H1 → Ref T PG D x H1 E1 → DaysIn K T PG D x d H1 E1 C := fun H1 E1 C g1 rf => ⟨rx.ext g1.ext, no.2, (gb.trans g1).tb, fun _ => rf, fun ns e ok => by
        have := isDays_of ok
        rw [← e, no.1] at this
        cases this⟩
      refine heard_ref mG gb.tb (fun dd H' h => .days rfl rfl h) (C := D) (y := x) (fun H1 E1 Q1 g1 rf => ⟨_, rfl, x, d, rfl, days H1 E1 _ g1 rf⟩) fun t1 Ha ga ht1 => ⟨by show 1 ≤ sizeLine; decide, fun l hl => ?_⟩
      have n1 : t1 ≠ l := fun z => by rw [z, hl] at ht1; cases ht1
      have g1 : Gr T PG Ha (upd Ha l (.lst [.ref t1])) := (Gr.refl (gb.trans ga).tb).new hl
      refine app_days mG rfl g1 hl upd_same (by simp) (fun v hv => ⟨t1, by simpa using hv, by rw [upd_ne n1]; exact ht1⟩) (fun H1 E1 Q1 gg rf => ⟨_, rfl, x, d, rfl, days H1 E1 _ (ga.trans (g1.trans gg)) rf⟩) fun H2 v2 g2 hl2 al2 => ?_
      refine app_days mG rfl g2 hl hl2 (by simp) al2 (fun H1 E1 Q1 gg rf => ⟨_, rfl, x, d, .non, .none, rfl, .non, days H1 E1 _ (ga.trans (g2.trans gg)) rf⟩) fun H3 v3 g3 hl3 al3 => ?_
      refine app_days mG rfl g3 hl hl3 (by simp) al3 (fun H1 E1 Q1 gg rf => ⟨_, rfl, x, d, .non, .none, rfl, .non, days H1 E1 _ (ga.trans (g3.trans gg)) rf⟩) fun H4 v4 g4 hl4 al4 => ?_
      refine app_days mG rfl g4 hl hl4 (by simp) al4 (fun H1 E1 Q1 gg rf => ⟨_, rfl, x, d, .non, .none, .non, .none, rfl, .non, .non, days H1 E1 _ (ga.trans (g4.trans gg)) rf⟩) fun H5 v5 g5 hl5 al5 => ?_
      have gA := ga.trans g5
      refine ⟨_, rfl, _, rfl, by show 3 ≤ sizeLine; decide, fun u hu => ⟨by show 1 ≤ sizeLine; decide, fun u2 hu2 => ⟨u2, 5, _, rfl, rfl, upd_same, by decide, by decide, by rw [sizeLine_eq]; simp, fun u3 hu3 => ?_⟩⟩⟩
      have gB := ((gA.new (o := .tup [.str "days", x, .bl true]) hu).new (o := .lst [.ref u]) hu2).new (o := .lst (List.replicate (5 : Int).toNat [V.ref u]).flatten) hu3
      have gC := (((Gr.refl (gb.trans gA).tb).new (o := .tup [.str "days", x, .bl true]) hu).new (o := .lst [.ref u]) hu2).new (o := .lst (List.replicate (5 : Int).toNat [V.ref u]).flatten) hu3
      have hu' : upd (upd (upd H5 u (.tup [.str "days", x, .bl true])) u2 (.lst [.ref u])) u3 (.lst (List.replicate (5 : Int).toNat [V.ref u]).flatten) u = some (.tup [.str "days", x, .bl true]) := by
        have n2 : u ≠ u2 := fun z => by rw [z, upd_same] at hu2; cases hu2
        have n3 : u ≠ u3 := fun z => by rw [z, upd_ne (fun y => n2 (z.trans y)), upd_same] at hu3; cases hu3
        rw [upd_ne n3, upd_ne n2, upd_same]
      have rowD := all_days (rx.ext gB.ext) (us := [v2, v3, v4, v5] |> fun t => V.ref t1 :: t) fun w hw => by
        obtain ⟨t, et, ht⟩ := al5 w (by simpa using hw)
        exact ⟨t, et, gC.tup ht⟩
      have rowE := all_days (rx.ext gB.ext) (us := [.ref u, .ref u, .ref u, .ref u, .ref u]) fun w hw => ⟨u, by simpa using hw, hu'⟩
      refine ⟨l, u3, .list (List.replicate 5 (.tuple [.str "days", d, .bool true])), 200000, 7, rfl, .lst (SqL.of (gC.lst hl5)) rowD, .lst (SqL.of upd_same) rowE, ?_, by decide, by decide, _, rfl, _, _, g.trans gB, rfl⟩
      exact shw_list (m := 20000) (k := 6) (fun z hz => by rw [List.eq_of_mem_replicate hz]; exact shw3 shw_days sd) (by rw [List.length_replicate]; decide)
    · rintro σ H' ⟨_, _, g, _⟩
      exact q H' (g10.trans g)
end
end K0
set_option Elab.async false
set_option linter.all false
set_option maxRecDepth 100000
set_option maxHeartbeats 4000000
/-! KitS: sorted(tuple of ints), set(tuple of ints). -/
namespace BK
open PySem PySem.Spec PyProof.Rows L2
section
variable {prog : Program} {w : World} {A : Around} {E : Value → Shared → Prop} {s : Shared}
/-- the heap behind the gathering of a tuple's items -/
def gath (h : Heap) (vs : List Value) : Heap := (h.push (seqObj "list" #[] 0)).update h.objs.size (Obj.mapSeq (· ++ vs.toArray))
theorem collectT {t : Addr} {vs : List Value} {Q : List Value → Shared → Prop} (ht : s.heap.IsTuple t vs.toArray) (hz : vs.length ≤ sizeLine) (h : Q vs { s with heap := gath s.heap vs }) : wpAny (model prog w) A (collect (.ref t)) Q E s := by
  obtain ⟨o, ho, hc, n, hd⟩ := ht
  have ho' : (s.heap.push (seqObj "list" #[] 0)).get? t = some o := Heap.get?_push_of_some _ ho
  have new : (s.heap.push (seqObj "list" #[] 0)).get? s.heap.objs.size = some (seqObj "list" #[] 0) := Heap.get?_push_size _ rfl
  unfold collect
  apply wpAny_bind
  apply wpAny_runValue
  apply codeAny_builtin entry_proto_collect'
  show wpAny _ _ (do again (.builtin "list.__iadd__" ⟨[← newList [], .ref t], []⟩)) _ _ s
  refine wpAny_bind (wpAny_newList ?_ (Nat.zero_le _))
  · apply wpAny_pure
    refine ⟨Code.quiet_builtin _ (by decide +kernel), codeAny_builtin entry_list_iadd' ?_⟩
    show wpAny _ _ (Builtin.List.listExtendWith (.ref s.heap.objs.size) (.ref t) (.ref s.heap.objs.size)) _ _ { s with heap := s.heap.push (seqObj "list" #[] 0) }
    unfold Builtin.List.listExtendWith
    refine wpAny_bind (wpAny_typeOf (T := "tuple") ⟨o, ho', hc⟩ ?_)
    have isT : (Value.type "tuple" == Value.type "tuple") = true := by rfl
    rw [if_pos (by rw [isT]; simp)]
    apply wpAny_bind
    apply listItems_at ho' hd
    apply wpAny_bind
    apply listItems_at new rfl
    rw [if_neg (by simp)]
    apply wpAny_bind
    apply listUpdate_at (xs := #[]) (n := 0) new rfl _ (Nat.zero_le _) (by show (#[] ++ vs.toArray).size ≤ sizeLine + 1; simp only [Array.size_append, List.size_toArray, List.length_nil]; omega)
    apply wpAny_pure
    show wpAny (model prog w) A (do
      let o ← load s.heap.objs.size
      match o.data with
      | .seq xs _ => pure xs.toList
      | _ => unsupported "internal:collect") Q E { s with heap := gath s.heap vs }
    apply wpAny_bind
    apply wpAny_load (get?_update_seq new _)
    show wpAny _ _ (pure ((#[] : Array Value) ++ vs.toArray).toList) Q E _
    rw [show ((#[] : Array Value) ++ vs.toArray).toList = vs by simp]
    exact wpAny_pure h
theorem gath_size (h : Heap) (vs : List Value) : (gath h vs).objs.size = h.objs.size + 1 := by
  unfold gath
  rw [Heap.size_update, size_push']
theorem gath_old {h : Heap} {vs : List Value} {b : Addr} {o : Obj} (e : h.get? b = some o) : (gath h vs).get? b = some o := by
  unfold gath
  rw [Heap.get?_update_other _ _ (Nat.ne_of_gt (Heap.lt_size e))]
  exact Heap.get?_push_of_some _ e
theorem sortedT {t : Addr} {vs : List Value} {ns : List Int} {Q : Value → Shared → Prop} (ht : s.heap.IsTuple t vs.toArray) (hi : IntsAre vs ns) (h64 : vs.length < 64)
    (h : ∀ (h' : Heap) (out : Array Value) (c : Nat) (ns' : List Int), (∀ b o, s.heap.get? b = some o → h'.get? b = some o) → h'.get? (s.heap.objs.size + 1) = some (seqObj "list" out c) → IntsAre out.toList ns' → ns'.Perm ns → ns'.Pairwise (· ≤ ·) → Q (.ref (s.heap.objs.size + 1)) { s with heap := h' }) :
    wpAny (model prog w) A (call (.builtin "sorted") [.ref t]) Q E s := by
  have hz : vs.length ≤ sizeLine := by rw [sizeLine_eq]; omega
  apply Calls.call_function_entry kind_sorted plain_sorted entry_sorted (args_sorted1 _)
  unfold Builtin.«sorted»
  refine wpAny_bind (m := checkCount "sorted" 1 1 _) (wpAny_pure ?_)
  refine wpAny_bind (collectT ht hz ?_)
  refine wpAny_bind (wpAny_newList ?_ hz)
  show wpAny _ _ _ _ _ { s with heap := (gath s.heap vs).push (seqObj "list" vs.toArray 0) }
  show wpAny _ _ (holding [.ref (gath s.heap vs).objs.size] _ >>= _) _ _ _
  have new : ((gath s.heap vs).push (seqObj "list" vs.toArray 0)).get? (gath s.heap vs).objs.size = some (seqObj "list" vs.toArray 0) := Heap.get?_push_size _ rfl
  refine wpAny_bind (wpAny_holding (wpAny_call_entry slot_list_sort ⟨_, new, rfl⟩ entry_list_sort (list_sort_tree new hi h64 fun out ns' a1 a2 a3 => ⟨_, rfl, ?_⟩) (args_list_sort _)))
  obtain ⟨c, hc⟩ := sortedHeap_at (out := out) new
  apply wpAny_pure
  refine ⟨_, rfl, ?_⟩
  rw [gath_size] at hc ⊢
  refine h _ out c ns' (fun b o e => ?_) hc a1 a2 a3
  have e1 := gath_old (vs := vs) e
  have lt := Heap.lt_size e1
  rw [gath_size] at lt
  rw [sortedHeap_old (Nat.ne_of_lt lt) (by rw [size_push', gath_size]; exact Nat.lt_succ_of_lt lt)]
  exact Heap.get?_push_of_some _ e1
end
section
variable {X : Cx}
def rSortTI (K : PySem.W.Frag) : List V → Hp → VK → Prop := fun vs H Q => ∃ (a : Addr) (ns : List Int), vs = [V.ref a] ∧ SqT K H a (ns.map V.int) ∧ ns.length < 64 ∧
  ∀ (ns' : List Int) (p : Addr), ns'.Perm ns → ns'.Pairwise (· ≤ ·) → H p = none → Q (.ref p) (upd H p (.lst (ns'.map V.int)))
theorem cr_sortTI : CallR X (.builtin "sorted") (rSortTI X.K) := by
  rintro pins s σ H vs us Q I r ⟨a, ns, rfl, hs, h64, q⟩
  obtain ⟨its, rv, ht, _⟩ := I.tuple hs
  rw [Vals.ref1 r]
  have hi := rv.ints
  have pt : s.heap.IsTuple a its.toArray := ht
  apply sortedT pt hi (by rw [hi.length]; exact h64)
  intro h' out c ns' keep new a1 a2 a3
  have hlen : (ns'.map V.int).length ≤ sizeLine := by rw [List.length_map, a2.length_eq, sizeLine_eq]; omega
  exact ⟨.ref _, upd H (s.heap.objs.size + 1) (.lst (ns'.map V.int)), I.laid (t' := s.toks) keep (Nat.le_succ _) ⟨hlen, out.toList, c, vals_of_ints a1, new⟩, rfl, q ns' _ a2 a3 (I.hok.fresh (Nat.le_succ _))⟩
def rSetTI (K : PySem.W.Frag) (w : World) : List V → Hp → VK → Prop := fun vs H Q => ∃ (a : Addr) (ns : List Int), vs = [V.ref a] ∧ SqT K H a (ns.map V.int) ∧ ns.length + 1 < scanBound ∧
  ∀ (p : Addr) (c : Nat), c ≤ ns.length → H p = none → Q (.ref p) (upd H p (SetO w p (fun j => decide (j ∈ ns)) c))
theorem cr_setTI (calm : X.calm = true) : CallR X (.type "set") (rSetTI X.K X.w) := by
  rintro pins s σ H vs us Q I r ⟨a, ns, rfl, hs, hb, q⟩
  obtain ⟨its, rv, ht, _⟩ := I.tuple hs
  rw [Vals.ref1 r]
  have pt : s.heap.IsTuple a its.toArray := ht
  apply call_set_tupI ns (I.ok.hd calm) pt rv.ints hb
  intro h' tk c R le keep
  exact ⟨.ref _, _, I.laid (t' := tk) keep (Nat.le_refl _) (setO_new R), rfl, q _ c le (I.hok.fresh (Nat.le_refl _))⟩
end
end BK
set_option Elab.async false
set_option linter.all false
set_option maxRecDepth 100000
set_option maxHeartbeats 4000000
/-! P13: the law's sets_right. -/
namespace K0
open PySem PySem.Spec PyProof.Rows L2 BK LamX
/-! ### sets of ints -/
theorem isSetL_iff {most : Int} : ∀ {ns : List Int} {least : Int}, isSetL most least (ns.map .int) = true ↔ ns.Pairwise (· < ·) ∧ ∀ n ∈ ns, least ≤ n ∧ n ≤ most
  | [], least => by simp [isSetL]
  | n :: ns, least => by
    have ih := isSetL_iff (most := most) (ns := ns) (least := n + 1)
    simp only [List.map_cons, isSetL, within, Bool.and_eq_true, decide_eq_true_eq, ih, List.pairwise_cons, List.mem_cons, forall_eq_or_imp]
    constructor
    · rintro ⟨⟨a, b⟩, c, d⟩
      exact ⟨⟨fun x hx => by have := d x hx; omega, c⟩, ⟨a, b⟩, fun x hx => by have := d x hx; omega⟩
    · rintro ⟨⟨a, b⟩, ⟨c, d⟩, e⟩
      exact ⟨⟨c, d⟩, b, fun x hx => by have h1 := a x hx; have h2 := e x hx; omega⟩
theorem sorted_same : ∀ {a b : List Int}, a.Pairwise (· < ·) → b.Pairwise (· < ·) → (∀ x, x ∈ a ↔ x ∈ b) → a = b
  | [], [], _, _, _ => rfl
  | [], y :: b, _, _, h => by have := (h y).mpr (List.mem_cons_self ..); simp at this
  | x :: a, [], _, _, h => by have := (h x).mp (List.mem_cons_self ..); simp at this
  | x :: a, y :: b, ha, hb, h => by
    obtain ⟨a1, a2⟩ := List.pairwise_cons.mp ha
    obtain ⟨b1, b2⟩ := List.pairwise_cons.mp hb
    have e : x = y := by
      rcases List.mem_cons.mp ((h x).mp (List.mem_cons_self ..)) with e | e
      · exact e
      · rcases List.mem_cons.mp ((h y).mpr (List.mem_cons_self ..)) with f | f
        · exact f.symm
        · have h1 := b1 x e
          have h2 := a1 y f
          omega
    subst e
    have rest : ∀ z, z ∈ a ↔ z ∈ b := fun z => by
      constructor
      · intro hz
        rcases List.mem_cons.mp ((h z).mp (List.mem_cons_of_mem _ hz)) with e | e
        · have := a1 z hz
          omega
        · exact e
      · intro hz
        rcases List.mem_cons.mp ((h z).mpr (List.mem_cons_of_mem _ hz)) with e | e
        · have := b1 z hz
          omega
        · exact e
    rw [sorted_same a2 b2 rest]
theorem eqv_ints : ∀ {a b : List Int}, PyData.eqvAll (a.map .int) (b.map .int) = decide (a = b)
  | [], [] => by simp [PyData.eqvAll]
  | [], y :: b => by simp [PyData.eqvAll]
  | x :: a, [] => by simp [PyData.eqvAll]
  | x :: a, y :: b => by
    simp only [List.map_cons, PyData.eqvAll, PyData.eqv, eqv_ints (a := a) (b := b), List.cons.injEq]
    by_cases h : x = y <;> simp [h]
theorem eqv_intsL {a b : List Int} : PyData.eqv (.list (a.map .int)) (.list (b.map .int)) = decide (a = b) := by
  simp only [PyData.eqv]
  exact eqv_ints
/-- [1 for ..] against [] -/
theorem eqv_ones {m : Nat} : PyData.eqv (.list ((List.replicate m (1 : Int)).map .int)) (.list []) = decide (m = 0) := by
  cases m with
  | zero => rfl
  | succ m => simp [List.replicate_succ, PyData.eqv, PyData.eqvAll]
theorem tb_sd {T : List (Addr × Str)} {PG st la ca : Addr} {n : Nat} {H H' : Hp} (s : StH st la ca n H) (d : Sd st la H H') (t : Tb T PG H) : Tb T PG H' := by
  obtain ⟨cells, lefts, h1, h2, h3, _⟩ := s.ex
  have k : ∀ b u, H b = some u → (∀ kvs, u ≠ .dK kvs) → (∀ xs, u ≠ .lst xs) → H' b = some u := fun b u e n1 n2 => by
    rw [d b (fun z => by rw [z, h1] at e; exact n1 _ (Option.some.inj e).symm) (fun z => by rw [z, h3] at e; exact n2 _ (Option.some.inj e).symm)]
    exact e
  obtain ⟨ps, e1, e2⟩ := t.gen
  refine ⟨fun p hp => ?_, ps, k _ _ e1 (fun _ z => by cases z) (fun _ z => by cases z), e2⟩
  obtain ⟨qs, g1, g2, g3⟩ := t.lam p hp
  refine ⟨qs, k _ _ g1 (fun _ z => by cases z) (fun _ z => by cases z), g2, fun pos cv hc => ?_⟩
  obtain ⟨c, r1, r2⟩ := g3 pos cv hc
  exact ⟨c, r1, k _ _ r2 (fun _ z => by unfold CodeO at z; cases z) (fun _ z => by unfold CodeO at z; cases z)⟩
/-- the state where a list of another place changes, or is laid -/
theorem StH.put {st la ca : Addr} {n : Nat} {H : Hp} {p : Addr} {o : HO} (s : StH st la ca n H) (h1 : p ≠ st) (h2 : p ≠ la) (h3 : p ≠ ca) : StH st la ca n (upd H p o) := by
  obtain ⟨cells, lefts, e1, e2, e3, r⟩ := s.ex
  exact ⟨cells, lefts, by rw [upd_ne (Ne.symm h1)]; exact e1, by rw [upd_ne (Ne.symm h3)]; exact e2, by rw [upd_ne (Ne.symm h2)]; exact e3, r⟩
theorem StH.away {st la ca : Addr} {n : Nat} {H : Hp} {p : Addr} (s : StH st la ca n H) (h : H p = none) : p ≠ st ∧ p ≠ la ∧ p ≠ ca := by
  obtain ⟨cells, lefts, e1, e2, e3, r⟩ := s.ex
  refine ⟨fun z => ?_, fun z => ?_, fun z => ?_⟩
  · rw [z, e1] at h
    cases h
  · rw [z, e3] at h
    cases h
  · rw [z, e2] at h
    cases h
theorem scan_ok {n : Nat} (h : n ≤ 10) : n + 1 < scanBound := Nat.lt_of_le_of_lt (Nat.succ_le_succ h) (by decide)
/-- list(told) == sorted(set(told)) and [1 for item in told if item > top] == [] -/
theorem good_read {K : PySem.W.Frag} {w : World} {T : List (Addr × Str)} {PG r : Addr} {H : Hp} {Q : VK} {top : Int} {ts : List Int} {s0 s1 s2 s3 s4 s7 s8 : Option V} (hr : H r = some (.tup (ts.map V.int))) (tb : Tb T PG H) (nn : ∀ n ∈ ts, 0 ≤ n) (ln : ts.length ≤ 10)
    (q : ∀ H', Gr T PG H H' → Q (.bl (isSet top (.tuple (ts.map .int)))) H') :
    tAndV (tOp (rEqD K) (tCB (fun xs H Q => ∃ p ys, xs = [.ref p] ∧ (SqL K H p ys ∨ SqT K H p ys) ∧ ∀ l, H l = none → Q (.ref l) (upd H l (.lst ys))) (tCons (tVar 5) tNil)) (tCB (rSortedSet w) (tCons (tCB (rSetTI K w) (tCons (tVar 5) tNil)) tNil)))
      (tOp (rEqD K) (tLc (iTup K (tVar 5)) (gName 8) (tTest (tOp (rI0 fun i j => .bl (decide (j < i))) (tVar 8) (tVar 6))) (tC (.int 1)) [8]) (tLst tNil)) [s0, s1, s2, s3, s4, some (.ref r), some (.int top), s7, s8] H Q := by
  have g0 := Gr.refl (T := T) (PG := PG) tb
  refine ⟨_, rfl, r, _, rfl, .inr (.inl (.inl hr)), fun l1 hl1 => ?_⟩
  have g1 := g0.new (o := .lst (ts.map V.int)) hl1
  refine ⟨_, rfl, r, ts, rfl, .inl (.inl (g1.tup hr)), scan_ok ln, fun q1 c cle hq1 => ?_⟩
  have g2 := g1.new (o := SetO w q1 (fun j => decide (j ∈ ts)) c) hq1
  refine ⟨q1, _, c, rfl, upd_same, by omega, fun ws q2 pw mem len hq2 => ?_⟩
  have g3 := g2.new (o := .lst (ws.map V.int)) hq2
  have hl3 : upd (upd (upd H l1 (.lst (ts.map V.int))) q1 (SetO w q1 (fun j => decide (j ∈ ts)) c)) q2 (.lst (ws.map V.int)) l1 = some (.lst (ts.map V.int)) := by
    have n1 : l1 ≠ q1 := fun z => by rw [z, upd_same] at hq1; cases hq1
    have n2 : l1 ≠ q2 := fun z => by rw [z, upd_ne (fun y => n1 (z.trans y)), upd_same] at hq2; cases hq2
    rw [upd_ne n2, upd_ne n1, upd_same]
  have mem' : ∀ k, k ∈ ws ↔ k ∈ ts := fun k => by rw [mem k]; exact decide_eq_true_iff
  have asc : ts = ws ↔ ts.Pairwise (· < ·) := ⟨fun e => e ▸ pw, fun p => sorted_same p pw fun x => (mem' x).symm⟩
  refine ⟨.list (ts.map .int), .list (ws.map .int), .lst (SqL.of hl3) (dpAll_of (.ints _)), .lst (SqL.of upd_same) (dpAll_of (.ints _)), shaped_ints _, shaped_ints _, _, rfl, ?_⟩
  rw [eqv_intsL]
  by_cases c1 : ts.Pairwise (· < ·)
  · rw [decide_eq_true (asc.mpr c1)]
    have hr3 := g3.tup hr
    generalize upd (upd (upd H l1 (.lst (ts.map V.int))) q1 (SetO w q1 (fun j => decide (j ∈ ts)) c)) q2 (.lst (ws.map V.int)) = H3 at g3 hr3 ⊢
    refine ⟨_, rfl, r, rfl, ⟨_, .inl (.inl hr3)⟩, fun D hD => ?_⟩
    refine lc_tup (K := K) (a := r) (xs := ts.map V.int) (fun k H' => Gr T PG H3 H' ∧ ∃ m : Nat, H' D = some (.lst ((List.replicate m (1 : Int)).map V.int)) ∧ m ≤ k ∧ (m = 0 ↔ ∀ x ∈ ts.take k, x ≤ top)) ?_ ?_ ?_ ?_
    · exact ⟨(Gr.refl g3.tb).new hD, 0, upd_same, Nat.le_refl _, by simp⟩
    · rintro k H' _ ⟨g4, _⟩
      exact .inl (.inl (g4.tup hr3))
    · rintro k x H' hx ⟨g4, m, h4, mk, mi⟩
      obtain ⟨v, hv, rfl⟩ : ∃ v, ts[k]? = some v ∧ x = V.int v := by
        rw [List.getElem?_map] at hx
        cases e : ts[k]? with
        | none => rw [e] at hx; cases hx
        | some u => rw [e] at hx; exact ⟨u, rfl, (Option.some.inj hx).symm⟩
      have kl : k < ts.length := (List.getElem?_eq_some_iff.mp hv).1
      have tk : ts.take (k + 1) = ts.take k ++ [v] := by rw [List.take_add_one, hv]; rfl
      refine ⟨rfl, _, rfl, _, rfl, _, _, rfl, rfl, _, rfl, ?_⟩
      by_cases c2 : top < v
      · rw [decide_eq_true c2]
        refine ⟨_, h4, by rw [sizeLine_eq, List.length_map, List.length_replicate]; omega, g4.mut hD h4, m + 1, ?_, by omega, ?_⟩
        · rw [upd_same, List.replicate_succ', List.map_append]
          rfl
        · constructor
          · intro z
            omega
          · intro z
            have := z v (by rw [tk]; simp)
            omega
      · rw [decide_eq_false c2]
        refine ⟨g4, m, h4, by omega, ?_⟩
        rw [mi, tk]
        constructor
        · intro z x hx
          rcases List.mem_append.mp hx with e | e
          · exact z x e
          · have : x = v := by simpa using e
            omega
        · intro z x hx
          exact z x (List.mem_append_left _ hx)
    · rintro H4 ⟨g4, m, h4, _, mi⟩
      rw [List.length_map, List.take_of_length_le (Nat.le_refl _)] at mi
      refine ⟨Nat.zero_le _, fun e he => ?_⟩
      have g5 := g4.new (o := .lst []) he
      have nDe : D ≠ e := fun z => by rw [z, he] at h4; cases h4
      refine ⟨.list ((List.replicate m (1 : Int)).map .int), .list [], .lst (SqL.of (by rw [upd_ne nDe]; exact h4)) (dpAll_of (.ints _)), .lst (SqL.of upd_same) .nil, shaped_ints _, by decide +kernel, ?_⟩
      rw [eqv_ones]
      have e1 : decide (m = 0) = isSet top (.tuple (ts.map .int)) := by
        rw [Bool.eq_iff_iff, decide_eq_true_iff]
        show _ ↔ isSetL top 0 (ts.map .int) = true
        rw [isSetL_iff, mi]
        exact ⟨fun z => ⟨c1, fun n hn => ⟨nn n hn, z n hn⟩⟩, fun z n hn => (z.2 n hn).2⟩
      rw [e1]
      exact q _ (g3.trans g5)
  · rw [decide_eq_false (fun z => c1 (asc.mp z))]
    have e1 : isSet top (.tuple (ts.map .int)) = false := by
      cases h : isSet top (.tuple (ts.map .int)) with
      | false => rfl
      | true => exact absurd (isSetL_iff.mp h).1 c1
    have q9 := q _ g3
    rw [e1] at q9
    exact q9
/-- nothing but the state, tables and new objects -/
def GrS (T : List (Addr × Str)) (PG st la : Addr) (H H' : Hp) : Prop := (∀ b o, H b = some o → (∀ ps, o ≠ .tbl ps) → b ≠ st → b ≠ la → H' b = some o) ∧ Tb T PG H'
def spSetsRight (T : List (Addr × Str)) (PG : Addr) : Sp := fun vs H Q _ => ∃ (st la ca : Addr) (n : Nat), vs = [.ref st] ∧ StH st la ca n H ∧ n ≤ 90000 ∧ Tb T PG H ∧ ∀ H', Tb T PG H' → Q (.bl true) H'
def nSe : List Str := ["state", "row_so", "good", "due", "odd", "told", "top", "step", "item"]
theorem sSet' : bootBuiltins "set" = some (.type "set") := by decide +kernel
theorem sSorted : bootBuiltins "sorted" = some (.builtin "sorted") := by decide +kernel
section
variable {P : Program} {w : World} {K : PySem.W.Frag} {mg : Str → Option Value} {base : Heap} {T : List (Addr × Str)} {PG D S M N HE : Addr}
theorem scSetsRight : FnScope nSe ["state"] (defScope sSetsRight) := ⟨rfl, rfl, rfl, by decide +kernel, rfl, by decide +kernel, by decide +kernel⟩
def qSe : Str := (envOfC "_law_sets_right" (defScope sSetsRight) 0 0 .none).qual ++ "<lambda>"
theorem def_setsRight (L : Lw P w K mg base T PG D S M N HE) (Dr : Def P w K mg base CX0 2 "_law_draw" ["state", "limit"] spDraw) {PL : Addr} (F : AtC K mg base "_law_sets_right" sSetsRight ["state"] PL) (mq : (PL, qSe) ∈ T) (uq : ∀ p ∈ T, p.1 = PL → p.2 = qSe) (mG : (PG, qG) ∈ T) :
    DefG P w K mg base 11 "_law_sets_right" ["state"] (spSetsRight T PG) := by
  refine F.okG scSetsRight (fun vs H Q E h => ?_) (fun fa c A outer s H vs Q E tb hgd hr h => ?_)
  · obtain ⟨st, la, ca, n, rfl, _⟩ := h
    rfl
  · obtain ⟨st, la, ca, n, rfl, hst, hn, tg, q⟩ := h
    refine ⟨_, pss_cons (ps_set (i := 6) scSetsRight.nd rfl (Or.inr rfl) (pe_def Dr (hr.mono (by decide)) (by rfl) pass0 (pa_cons (pv 0) (pa_cons pe_int pa_nil))))
      (pss_cons (ps_set (i := 1) scSetsRight.nd rfl (Or.inl rfl) (pe_callTy (r := rTupOf K) call_tuple_of (by rfl) L.bl.tup sTup (pa_cons
          (pe_lc (own := [("step", 7)]) (g := gName 7) (tt := tYes) rfl scSetsRight.nd (pi_range1 (by rfl) L.bl.rng (pa_cons (pe_def Dr (hr.mono (by decide)) (by rfl) pass0 (pa_cons (pv 0) (pa_cons pe_int pa_nil))) pa_nil)) (blkOk_by (N := nSe) (sc := defScope sSetsRight) (by decide +kernel)) (fun _ _ _ _ _ => pg_name (i := 7) scSetsRight.nd rfl (Or.inl rfl)) (fun _ _ _ _ _ => pts_nil)
            (fun _ _ _ _ _ => pe_def Dr (hr.mono (by decide)) (by rfl) pass0 (pa_cons (pv 0) (pa_cons pe_int pa_nil)))) pa_nil)))
      (pss_cons (ps_for PassesOwn.never rfl (pi_tup (pe_tup (pa_cons (pv 1) (pa_cons (pe_callTy (r := rTupOf K) call_tuple_of (by rfl) L.bl.tup sTup (pa_cons (pe_callB (r := rSortTI K) cr_sortTI (by rfl) L.bl.srt sSorted (pa_cons (pv 1) pa_nil)) pa_nil))
            (pa_cons (pe_callTy (r := rTupOf K) call_tuple_of (by rfl) L.bl.tup sTup (pa_cons (pe_callB (r := rSortedSet w) (cr_sortedSet rfl) (by rfl) L.bl.srt sSorted (pa_cons (pe_callTy (r := rSetTI K w) (cr_setTI rfl) (by rfl) L.bl.set sSet' (pa_cons (pv 1) pa_nil)) pa_nil)) pa_nil)) pa_nil))))) (pg_name (i := 5) scSetsRight.nd rfl (Or.inr rfl))
        (pss_cons (ps_set (i := 2) scSetsRight.nd rfl (Or.inl rfl) (pe_and (pe_cmpR (op_eqD (hu_64 hr)) (pe_callTy call_list_of (by rfl) L.bl.lst sList (pa_cons (pv 5) pa_nil)) (pe_callB (r := rSortedSet w) (cr_sortedSet rfl) (by rfl) L.bl.srt sSorted (pa_cons (pe_callTy (r := rSetTI K w) (cr_setTI rfl) (by rfl) L.bl.set sSet' (pa_cons (pv 5) pa_nil)) pa_nil)) (nomark _))
            (pe_one (pe_cmpR (op_eqD (hu_64 hr)) (pe_lc (own := [("item", 8)]) (g := gName 8) rfl scSetsRight.nd (pi_tup (pv 5)) (blkOk_by (N := nSe) (sc := defScope sSetsRight) (by decide +kernel)) (fun _ _ _ _ _ => pg_name (i := 8) scSetsRight.nd rfl (Or.inl rfl)) (fun _ _ _ _ _ => pts_one (pt_cmpR op_gt (pv 8) (pv 6) rfl)) (fun _ _ _ _ _ => pe_int)) (pe_lst pa_nil) (nomark _)))))
        (pss_cons (ps_set (i := 3) scSetsRight.nd rfl (Or.inl rfl) (pe_ifExp (pt_val (pv 2)) (pe_tup (pa_cons pe_str (pa_cons (pv 5) pa_nil))) (pe_tup (pa_cons pe_str (pa_cons (pv 5) (pa_cons pe_bl pa_nil))))))
        (pss_one (ps_if (pt_not (pt_val (pe_defG L.like hgd (hr.mono (by decide)) (by rfl) (pa_cons
            (pe_heard (k := 8) L.et L.heard (by rfl) tb rfl mq uq hr (lamS_by (sc := defScope sSetsRight) (by decide +kernel)) (by rfl) (fun _ _ _ _ _ => by rfl)
              (fun A2 outer2 s2 H2 E2 f2 c2 hr2 => pe_def (E := E2) L.needSet hr2 (by rfl) (passes_call (takes_of rfl rfl rfl rfl) fun _ _ _ _ h => h) (pa_cons (pv 5) (pa_cons (pv 6) pa_nil)))) (pa_cons (pv 3) pa_nil)))))
          (pss_one (ps_ret pe_bl)) pss_nil)))))
      (pss_cons (ps_for PassesOwn.never rfl (pi_tup (pe_tup (pa_cons pe_non (pa_cons (pe_lst (pa_cons pe_int pa_nil)) (pa_cons (pe_tup (pa_cons pe_bl pa_nil)) (pa_cons (pe_tup (pa_cons pe_str pa_nil)) (pa_cons (pe_tup (pa_cons (pe_un un_neg pe_int) pa_nil)) (pa_cons pe_int
            (pa_cons (pe_tup (pa_cons pe_int (pa_cons pe_non pa_nil))) (pa_cons (pe_tup (pa_cons (pe_tup (pa_cons pe_int pa_nil)) pa_nil)) pa_nil)))))))))) (pg_name (i := 4) scSetsRight.nd rfl (Or.inr rfl))
          (pss_one (ps_if (pt_not (pt_val (pe_defG L.like hgd (hr.mono (by decide)) (by rfl) (pa_cons
            (pe_heard (k := 8) L.et L.heard (by rfl) tb rfl mq uq hr (lamS_by (sc := defScope sSetsRight) (by decide +kernel)) (by rfl) (fun _ _ _ _ _ => by rfl)
              (fun A2 outer2 s2 H2 E2 f2 c2 hr2 => pe_def (E := E2) L.needSet hr2 (by rfl) (passes_call (takes_of rfl rfl rfl rfl) fun _ _ _ _ h => h) (pa_cons (pv 4) (pa_cons pe_int pa_nil)))) (pa_cons (pe_tup (pa_cons pe_str (pa_cons (pv 4) (pa_cons pe_bl pa_nil)))) pa_nil)))))
          (pss_one (ps_ret pe_bl)) pss_nil)))
      (pss_cons (ps_for PassesOwn.never rfl (pi_tup (pe_tup (pa_cons (pe_un un_neg pe_int) (pa_cons (pe_op op_add (pe_op op_pow pe_int pe_int) pe_int) (pa_cons pe_bl (pa_cons pe_non (pa_cons pe_str pa_nil))))))) (pg_name (i := 4) scSetsRight.nd rfl (Or.inr rfl))
          (pss_one (ps_if (pt_not (pt_val (pe_defG L.like hgd (hr.mono (by decide)) (by rfl) (pa_cons
            (pe_heard (k := 8) L.et L.heard (by rfl) tb rfl mq uq hr (lamS_by (sc := defScope sSetsRight) (by decide +kernel)) (by rfl) (fun _ _ _ _ _ => by rfl)
              (fun A2 outer2 s2 H2 E2 f2 c2 hr2 => pe_def (E := E2) L.needSet hr2 (by rfl) (passes_call (takes_of rfl rfl rfl rfl) fun _ _ _ _ h => h) (pa_cons pe_non (pa_cons (pv 4) pa_nil)))) (pa_cons (pe_tup (pa_cons pe_str (pa_cons (pv 4) (pa_cons pe_bl pa_nil)))) pa_nil)))))
          (pss_one (ps_ret pe_bl)) pss_nil)))
      (pss_one (ps_ret (pe_defG L.like hgd (hr.mono (by decide)) (by rfl) (pa_cons (pe_def (E := E0) L.needSet (hr.mono (by decide)) (by rfl) passN (pa_cons (pe_tup (pa_cons pe_int (pa_cons (pe_op op_pow pe_int pe_int) pa_nil))) (pa_cons (pe_op op_pow pe_int pe_int) pa_nil))) (pa_cons (pe_tup (pa_cons pe_int (pa_cons (pe_op op_pow pe_int pe_int) pa_nil))) pa_nil))))))))), ?_⟩
    refine ⟨_, rfl, st, la, ca, n, 9, rfl, hst, by omega, by decide, by decide, fun top H1 t0 t1 sd1 hst1 => ?_⟩
    have tb1 := tb_sd hst sd1 tg
    refine ⟨_, rfl, st, la, ca, _, 5, rfl, hst1, by omega, by decide, by decide, fun many H2 m0 m1 sd2 hst2 => ⟨many, rfl, by omega, by omega, fun D hD => ?_⟩⟩
    have tb2 := tb_sd hst1 sd2 tb1
    obtain ⟨nDs, nDl, nDc⟩ := hst2.away hD
    refine lc_range (fun k H' => Tb T PG H' ∧ StH st la ca (n + 2 + k) H' ∧ ∃ ns : List Int, H' D = some (.lst (ns.map V.int)) ∧ ns.length = k ∧ ∀ x ∈ ns, 0 ≤ x ∧ x < 10) ?_ ?_ ?_
    · exact ⟨tb_new hD tb2, hst2.put nDs nDl nDc, [], upd_same, rfl, by simp⟩
    · rintro k H' hk ⟨tb', hst', ns, hns, lns, bns⟩
      refine ⟨rfl, yes ?_⟩
      rw [if_pos rfl]
      refine ⟨_, rfl, st, la, ca, _, 10, rfl, hst', by omega, by decide, by decide, fun r H'' r0 r1 sd hst'' => ?_⟩
      have hns' : H'' D = some (.lst (ns.map V.int)) := by rw [sd D nDs nDl]; exact hns
      refine ⟨_, hns', by rw [sizeLine_eq, List.length_map]; omega, tb_mut hns' (fun _ z => by cases z) (fun _ z => by unfold CodeO at z; cases z) (tb_sd hst' sd tb'), hst''.put nDs nDl nDc, ns ++ [r], ?_, by simp [lns], ?_⟩
      · rw [upd_same, List.map_append]
        rfl
      · intro x hx
        rcases List.mem_append.mp hx with e | e
        · exact bns x e
        · have : x = r := by simpa using e
          omega
    · rintro H3 ⟨tb3, hst3, ns, hns, lns, bns⟩
      have l5 : ns.length ≤ 4 := by omega
      clear hst3 hst2 hst1 sd1 sd2 tb1 tb2 hst tg
      refine ⟨D, _, rfl, .inl ⟨SqL.of hns, fun p hp => ?_⟩⟩
      have hp4 : upd H3 p (.tup (ns.map V.int)) p = some (.tup (ns.map V.int)) := upd_same
      have g0 : Gr T PG (upd H3 p (.tup (ns.map V.int))) (upd H3 p (.tup (ns.map V.int))) := Gr.refl (tb_new hp tb3)
      generalize upd H3 p (.tup (ns.map V.int)) = H4 at hp4 g0 ⊢
      clear hns hp tb3 lns
      -- three rows
      refine ⟨_, rfl, _, rfl, p, ns, rfl, .inl (.inl hp4), by omega, fun zs q1 pm pw hq1 => ⟨q1, _, rfl, .inl ⟨SqL.of upd_same, fun p2 hp2 => ?_⟩⟩⟩
      have g1 := (g0.new (o := .lst (zs.map V.int)) hq1).new (o := .tup (zs.map V.int)) hp2
      have hp5 := g1.tup hp4
      have hz5 : upd (upd H4 q1 (.lst (zs.map V.int))) p2 (.tup (zs.map V.int)) p2 = some (.tup (zs.map V.int)) := upd_same
      generalize upd (upd H4 q1 (.lst (zs.map V.int))) p2 (.tup (zs.map V.int)) = H5 at g1 hp5 hz5 ⊢
      clear hp4 hq1 hp2 g0
      refine ⟨_, rfl, p, ns, rfl, .inl (.inl hp5), scan_ok (by omega), fun q3 c cle hq3 => ⟨q3, _, c, rfl, upd_same, by omega, fun ws q4 pw4 mem4 len4 hq4 => ⟨q4, _, rfl, .inl ⟨SqL.of upd_same, fun p3 hp3 => ⟨by show 3 ≤ sizeLine; decide, fun tp htp => ⟨tp, rfl, ⟨_, .inl (.inl upd_same)⟩, ?_⟩⟩⟩⟩⟩⟩
      have g2 := ((((Gr.refl g1.tb).new (o := SetO w q3 (fun j => decide (j ∈ ns)) c) hq3).new (o := .lst (ws.map V.int)) hq4).new (o := .tup (ws.map V.int)) hp3).new (o := .tup [.ref p, .ref p2, .ref p3]) htp
      have hp6 := g2.tup hp5
      have hz6 := g2.tup hz5
      have hw6 : upd (upd (upd (upd H5 q3 (SetO w q3 (fun j => decide (j ∈ ns)) c)) q4 (.lst (ws.map V.int))) p3 (.tup (ws.map V.int))) tp (.tup [.ref p, .ref p2, .ref p3]) p3 = some (.tup (ws.map V.int)) := by
        have n1 : p3 ≠ tp := fun z => by rw [z, upd_same] at htp; cases htp
        rw [upd_ne n1, upd_same]
      have ht6 : upd (upd (upd (upd H5 q3 (SetO w q3 (fun j => decide (j ∈ ns)) c)) q4 (.lst (ws.map V.int))) p3 (.tup (ws.map V.int))) tp (.tup [.ref p, .ref p2, .ref p3]) tp = some (.tup [.ref p, .ref p2, .ref p3]) := upd_same
      generalize upd (upd (upd (upd H5 q3 (SetO w q3 (fun j => decide (j ∈ ns)) c)) q4 (.lst (ws.map V.int))) p3 (.tup (ws.map V.int))) tp (.tup [.ref p, .ref p2, .ref p3]) = H6 at g2 hp6 hz6 hw6 ht6 ⊢
      clear hp5 hz5 hq3 hq4 hp3 htp g1
      have bz : ∀ x ∈ zs, 0 ≤ x ∧ x < 10 := fun x hx => bns x (pm.mem_iff.mp hx)
      have bw : ∀ x ∈ ws, 0 ≤ x ∧ x < 10 := fun x hx => bns x (decide_eq_true_iff.mp ((mem4 x).mp hx))
      have rows : ∀ x ∈ ([.ref p, .ref p2, .ref p3] : List V), ∃ (r : Addr) (ts : List Int), x = .ref r ∧ H6 r = some (.tup (ts.map V.int)) ∧ ts.length ≤ 4 ∧ ∀ n ∈ ts, 0 ≤ n ∧ n < 10 := fun x hx => by
        simp only [List.mem_cons, List.not_mem_nil, or_false] at hx
        rcases hx with rfl | rfl | rfl
        · exact ⟨p, ns, rfl, hp6, l5, bns⟩
        · exact ⟨p2, zs, rfl, hz6, by rw [pm.length_eq]; exact l5, bz⟩
        · exact ⟨p3, ws, rfl, hw6, by omega, bw⟩
      refine for_tup (K := K) (a := tp) (xs := [.ref p, .ref p2, .ref p3]) (fun i σ H' => ∃ a2 a3 a5, Gr T PG H6 H' ∧ σ = [some (.ref st), some (.ref p), a2, a3, none, a5, some (.int top), none, none]) ?_ ?_ ?_ ?_
      · exact ⟨none, none, none, .refl g2.tb, rfl⟩
      · rintro i σ H' _ ⟨_, _, _, g, _⟩
        exact .inl (.inl (g.tup ht6))
      · rintro i x σ H' hx ⟨a2, a3, a5, g3, rfl⟩
        obtain ⟨r, ts, rfl, hr6, lt, bt⟩ := rows x (List.mem_of_getElem? hx)
        have hr7 := g3.tup hr6
        have sht : Shw (.tuple (ts.map .int)) 3000 5 := (shw_intsT (n := 3000) (fun i hi => by have := bt i hi; omega) (by omega)).mono (by decide) (by decide)
        refine good_read (w := w) hr7 g3.tb (fun n hn => (bt n hn).1) (by omega) fun H7 g4 => ?_
        have hr8 := g4.tup hr7
        have g34 := g3.trans g4
        have rr : Rep K H7 (.ref r) (.tuple (ts.map .int)) := .tup (.inl (.inl hr8)) (.ints _)
        refine ⟨_, rfl, _, rfl, ?_⟩
        cases hs : isSet top (.tuple (ts.map .int)) with
        | true =>
          refine ⟨_, rfl, by show 2 ≤ sizeLine; decide, fun du hdu => ?_⟩
          have g5 := (Gr.refl g34.tb).new (o := .tup [.str "is", .ref r]) hdu
          refine heard_is (fun v H' => v = .ref r) mG g5.tb (fun H1 E1 Q1 g6 cont => ?_) fun v pp H8 g6 ev hpp => ?_
          · have g56 := g5.trans g6
            exact ⟨_, rfl, _, rfl, .ref r, _, .int top, _, rfl, rr.ext g56.ext, .int _, g56.tb, fun z => (by rw [within_yes (by omega) (by omega)] at z; cases z), fun most em _ _ => (by cases em; exact ⟨fun z => (by rw [hs] at z; cases z), fun _ => cont _ H1 (Gr.refl g56.tb) rfl⟩)⟩
          · subst ev
            have g56 := g5.trans g6
            have hdu8 := g6.tup (show upd H7 du (.tup [.str "is", .ref r]) du = some (.tup [.str "is", .ref r]) from upd_same)
            have ndp : du ≠ pp := fun z => by rw [z, hpp] at hdu8; cases hdu8
            have it : RepAll K (upd H8 pp (.tup [.str "is", .ref r])) [.str "is", .ref r] [.str "is", .tuple (ts.map .int)] := .cons (.str _) (.cons ((rr.ext g56.ext).ext (ext_new hpp)) .nil)
            refine ⟨_, rfl, pp, du, .tuple [.str "is", .tuple (ts.map .int)], 20000, 6, rfl, .tup (.inl (.inl upd_same)) it, .tup (.inl (.inl (by rw [upd_ne ndp]; exact hdu8))) it, shw2 shw_is sht, by decide, by decide, _, rfl, ?_⟩
            exact ⟨_, _, _, (g34.trans g56).new hpp, rfl⟩
        | false =>
          refine ⟨_, rfl, by show 3 ≤ sizeLine; decide, fun du hdu => ?_⟩
          have g5 := (Gr.refl g34.tb).new (o := .tup [.str "set", .ref r, .bl true]) hdu
          refine heard_ref mG g5.tb (fun dd H' h => .set rfl rfl h) (C := S) (y := .ref r) (fun H1 E1 Q1 g6 rf => ?_) fun pp H8 g6 hpp => ?_
          · have g56 := g5.trans g6
            exact ⟨_, rfl, _, rfl, .ref r, _, .int top, _, rfl, rr.ext g56.ext, .int _, g56.tb, fun z => (by rw [within_yes (by omega) (by omega)] at z; cases z), fun most em _ _ => (by cases em; exact ⟨fun _ => rf, fun z => (by rw [hs] at z; cases z)⟩)⟩
          · have g56 := g5.trans g6
            have hdu8 := g6.tup (show upd H7 du (.tup [.str "set", .ref r, .bl true]) du = some (.tup [.str "set", .ref r, .bl true]) from upd_same)
            have it : RepAll K H8 [.str "set", .ref r, .bl true] [.str "set", .tuple (ts.map .int), .bool true] := .cons (.str _) (.cons (rr.ext g56.ext) (.cons (.bl _) .nil))
            refine ⟨_, rfl, pp, du, .tuple [.str "set", .tuple (ts.map .int), .bool true], 20000, 6, rfl, .tup (.inl (.inl hpp)) it, .tup (.inl (.inl hdu8)) it, shw3 shw_set sht, by decide, by decide, _, rfl, ?_⟩
            exact ⟨_, _, _, g34.trans g56, rfl⟩
      · rintro σ H7 ⟨a2, a3, a5, g3, rfl⟩
        have g23 := g2.trans g3
        have tb7 := g3.tb
        clear g23 g3 rows bz bw hp6 hz6 hw6 ht6 g2 mem4 len4 pw4 pm pw cle
        clear H6 H5 H4
        -- no sets
        refine ⟨by show 1 ≤ sizeLine; decide, fun b1 h1 => ?_⟩
        have r1 : RepAll K (upd H7 b1 (.lst [.int 0])) [.non, .ref b1] [.none, .list [.int 0]] := .cons .non (.cons (.lst (SqL.of upd_same) (.cons (.int 0) .nil)) .nil)
        have u1 := tb_new (o := .lst [.int 0]) h1 tb7
        generalize upd H7 b1 (.lst [.int 0]) = J1 at r1 u1 ⊢
        refine ⟨by show 1 ≤ sizeLine; decide, fun b2 h2 => ?_⟩
        have r2 := (r1.ext (ext_new (o := .tup [.bl true]) h2)).append (.cons (.tup (.inl (.inl upd_same)) (.cons (.bl true) .nil)) .nil)
        have u2 := tb_new (o := .tup [.bl true]) h2 u1
        generalize upd J1 b2 (.tup [.bl true]) = J2 at r2 u2 ⊢
        refine ⟨by show 1 ≤ sizeLine; decide, fun b3 h3 => ?_⟩
        have r3 := (r2.ext (ext_new (o := .tup [.str "0"]) h3)).append (.cons (.tup (.inl (.inl upd_same)) (.cons (.str "0") .nil)) .nil)
        have u3 := tb_new (o := .tup [.str "0"]) h3 u2
        generalize upd J2 b3 (.tup [.str "0"]) = J3 at r3 u3 ⊢
        refine ⟨_, rfl, by show 1 ≤ sizeLine; decide, fun b4 h4 => ?_⟩
        have r4 := (r3.ext (ext_new (o := .tup [.int (-1)]) h4)).append (.cons (.tup (.inl (.inl upd_same)) (.cons (.int (-1)) .nil)) (.cons (.int 0) .nil))
        have u4 := tb_new (o := .tup [.int (-1)]) h4 u3
        generalize upd J3 b4 (.tup [.int (-1)]) = J4 at r4 u4 ⊢
        refine ⟨by show 2 ≤ sizeLine; decide, fun b5 h5 => ?_⟩
        have r5 := (r4.ext (ext_new (o := .tup [.int 0, .non]) h5)).append (.cons (.tup (.inl (.inl upd_same)) (.cons (.int 0) (.cons .non .nil))) .nil)
        have u5 := tb_new (o := .tup [.int 0, .non]) h5 u4
        generalize upd J4 b5 (.tup [.int 0, .non]) = J5 at r5 u5 ⊢
        refine ⟨by show 1 ≤ sizeLine; decide, fun b6 h6 => ⟨by show 1 ≤ sizeLine; decide, fun b7 h7 => ?_⟩⟩
        have n67 : b6 ≠ b7 := fun z => by rw [z, upd_same] at h7; cases h7
        have r7 := ((r5.ext (ext_new (o := .tup [.int 0]) h6)).ext (ext_new (o := .tup [.ref b6]) h7)).append (.cons (.tup (.inl (.inl upd_same)) (.cons (.tup (.inl (.inl (by rw [upd_ne n67]; exact upd_same))) (.cons (.int 0) .nil)) .nil)) .nil)
        have u7 := tb_new (o := .tup [.ref b6]) h7 (tb_new (o := .tup [.int 0]) h6 u5)
        generalize upd (upd J5 b6 (.tup [.int 0])) b7 (.tup [.ref b6]) = J7 at r7 u7 ⊢
        refine ⟨by show 8 ≤ sizeLine; decide, fun b8 h8 => ?_⟩
        let xs : List V := [.non, .ref b1, .ref b2, .ref b3, .ref b4, .int 0, .ref b5, .ref b7]
        let ds : List PyData := [.none, .list [.int 0], .tuple [.bool true], .tuple [.str "0"], .tuple [.int (-1)], .int 0, .tuple [.int 0, .none], .tuple [.tuple [.int 0]]]
        have r7' : RepAll K J7 xs ds := r7
        refine ⟨b8, rfl, ⟨xs, .inl (.inl upd_same)⟩, ?_⟩
        have r8 := r7'.ext (ext_new (o := .tup xs) h8)
        have u8 := tb_new (o := .tup xs) h8 u7
        have h8' : upd J7 b8 (.tup xs) b8 = some (.tup xs) := upd_same
        show ∃ W : Nat → Nat → L2.St → Hp → Prop, (∃ m, W 0 m _ (upd J7 b8 (.tup xs))) ∧ _
        generalize upd J7 b8 (.tup xs) = J8 at r8 u8 h8' ⊢
        refine for_tup (K := K) (a := b8) (xs := xs) (fun i σ H' => ∃ o, Gr T PG J8 H' ∧ σ = [some (.ref st), some (.ref p), a2, a3, o, a5, some (.int top), none, none]) ?_ ?_ ?_ ?_
        · exact ⟨none, .refl u8, rfl⟩
        · rintro i σ H' _ ⟨_, g, _⟩
          exact .inl (.inl (g.tup h8'))
        · rintro i x σ Hb hx ⟨o, g, rfl⟩
          obtain ⟨d, hd, rx0⟩ := rep_at r8 hx
          have rx := rx0.ext g.ext
          have md : d ∈ ds := List.mem_of_getElem? hd
          have no : isSet 9 d = false := by
            simp only [ds, List.mem_cons, List.not_mem_nil, or_false] at md
            rcases md with rfl | rfl | rfl | rfl | rfl | rfl | rfl | rfl <;> decide
          have sd : Shw d 3000 5 := by
            simp only [ds, List.mem_cons, List.not_mem_nil, or_false] at md
            rcases md with rfl | rfl | rfl | rfl | rfl | rfl | rfl | rfl <;> exact ⟨⟨by decide +kernel, by decide +kernel, by decide +kernel⟩, by decide +kernel⟩
          refine like_ref (C := S) (d := d) mG g.tb (fun dd H' h => .set rfl rfl h) rfl rx sd shw_set (fun H1 E1 Q1 g10 rf => ?_) fun H1 g10 => ?_
          · exact ⟨_, rfl, x, d, .int 9, _, rfl, rx.ext g10.ext, .int _, (g.trans g10).tb, fun z => (by rw [within_yes (by omega) (by omega)] at z; cases z), fun most em _ _ => (by cases em; exact ⟨fun _ => rf, fun z => (by rw [no] at z; cases z)⟩)⟩
          · exact ⟨_, rfl, _, g.trans g10, rfl⟩
        · rintro σ K0 ⟨o, g, rfl⟩
          have v0 := g.tb
          clear r8 u8 h8' g r7' r7 u7 h8 h7 h6 r5 u5 h5 r4 u4 h4 r3 u3 h3 r2 u2 h2 r1 u1 h1 n67
          clear J8 J7 J5 J4 J3 J2 J1
          -- no tops
          have p6 : (10 : Int) ^ (6 : Int).toNat = 1000000 := by decide
          refine ⟨_, rfl, _, _, rfl, rfl, ⟨by decide, by decide, by decide⟩, _, _, rfl, rfl, by show 5 ≤ sizeLine; decide, fun c1 k1 => ⟨c1, rfl, ⟨_, .inl (.inl upd_same)⟩, ?_⟩⟩
          let ys : List V := [.int (-1), .int ((10 : Int) ^ (6 : Int).toNat + 1), .bl true, .non, .str "9"]
          let es : List PyData := [.int (-1), .int 1000001, .bool true, .none, .str "9"]
          have w0 := tb_new (o := .tup ys) k1 v0
          have k1' : upd K0 c1 (.tup ys) c1 = some (.tup ys) := upd_same
          show ∃ W : Nat → Nat → L2.St → Hp → Prop, (∃ m, W 0 m _ (upd K0 c1 (.tup ys))) ∧ _
          generalize upd K0 c1 (.tup ys) = K1 at w0 k1' ⊢
          have res : RepAll K K1 ys es := .cons (.int _) (.cons (by rw [p6]; exact .int _) (.cons (.bl _) (.cons .non (.cons (.str _) .nil))))
          refine for_tup (K := K) (a := c1) (xs := ys) (fun i σ H' => ∃ o, Gr T PG K1 H' ∧ σ = [some (.ref st), some (.ref p), a2, a3, o, a5, some (.int top), none, none]) ?_ ?_ ?_ ?_
          · exact ⟨_, .refl w0, rfl⟩
          · rintro i σ H' _ ⟨_, g, _⟩
            exact .inl (.inl (g.tup k1'))
          · rintro i x σ Hb hx ⟨o, g, rfl⟩
            obtain ⟨d, hd, rx0⟩ := rep_at res hx
            have rx := rx0.ext g.ext
            have md : d ∈ es := List.mem_of_getElem? hd
            have no : within d 0 1000000 = false := by
              simp only [es, List.mem_cons, List.not_mem_nil, or_false] at md
              rcases md with rfl | rfl | rfl | rfl | rfl <;> decide
            have sd : Shw d 3000 5 := by
              simp only [es, List.mem_cons, List.not_mem_nil, or_false] at md
              rcases md with rfl | rfl | rfl | rfl | rfl <;> exact ⟨⟨by decide +kernel, by decide +kernel, by decide +kernel⟩, by decide +kernel⟩
            refine like_ref (C := M) (d := d) mG g.tb (fun dd H' h => .par rfl rfl h) rfl rx sd shw_par (fun H1 E1 Q1 g10 rf => ?_) fun H1 g10 => ?_
            · exact ⟨_, rfl, .non, .none, x, d, rfl, .non, rx.ext g10.ext, (g.trans g10).tb, fun _ => rf, fun most em m0 m1 => (by rw [em, within_yes m0 m1] at no; cases no)⟩
            · exact ⟨_, rfl, _, g.trans g10, rfl⟩
          · rintro σ K2 ⟨o, g, rfl⟩
            have w2 := g.tb
            clear res g k1' w0 v0
            clear K1
            -- the greatest set
            have cp : CPow 10 6 := ⟨by decide, by decide, by decide⟩
            refine ⟨_, _, rfl, rfl, cp, by show 2 ≤ sizeLine; decide, fun f1 m1 => ?_⟩
            have w3 := tb_new (o := .tup [.int 0, .int ((10 : Int) ^ (6 : Int).toNat)]) m1 w2
            have m1' : upd K2 f1 (.tup [.int 0, .int ((10 : Int) ^ (6 : Int).toNat)]) f1 = some (.tup [.int 0, .int ((10 : Int) ^ (6 : Int).toNat)]) := upd_same
            generalize upd K2 f1 (.tup [.int 0, .int ((10 : Int) ^ (6 : Int).toNat)]) = K3 at w3 m1' ⊢
            have it : ∀ Hz, RepAll K Hz [.int 0, .int ((10 : Int) ^ (6 : Int).toNat)] [.int 0, .int 1000000] := fun Hz => .cons (.int 0) (.cons (by rw [p6]; exact .int _) .nil)
            refine ⟨_, _, rfl, rfl, cp, .ref f1, .tuple [.int 0, .int 1000000], _, .int 1000000, rfl, .tup (.inl (.inl m1')) (it K3), (show Rep K K3 (V.int ((10 : Int) ^ (6 : Int).toNat)) (.int 1000000) by rw [p6]; exact .int _), w3, fun z => (by cases z), fun most em _ _ => ?_⟩
            cases em
            refine ⟨fun z => absurd z (by decide), fun _ => ?_⟩
            refine ⟨_, _, rfl, rfl, cp, by show 2 ≤ sizeLine; decide, fun f2 m2 => ?_⟩
            have n12 : f1 ≠ f2 := fun z => by rw [z, m2] at m1'; cases m1'
            refine ⟨f1, f2, .tuple [.int 0, .int 1000000], 3000, 1, rfl, .tup (.inl (.inl (by rw [upd_ne n12]; exact m1'))) (it _), .tup (.inl (.inl upd_same)) (it _), ?_, by decide, by decide, q _ (tb_new m2 w3)⟩
            exact ⟨⟨by decide +kernel, by decide +kernel, by decide +kernel⟩, by decide +kernel⟩
end
end K0
set_option Elab.async false
set_option linter.all false
set_option maxRecDepth 100000
set_option maxHeartbeats 4000000
/-! KitK: calls by keywords alone. -/
namespace BK
open PySem PySem.Spec PyProof.Rows L2
/-- a def that keeps its promise, called by the keywords ks, in the order that g tells -/
structure DefK (P : Program) (w : World) (K : PySem.W.Frag) (mg : Str → Option Value) (base : Heap) (CX : CXT) (k : Nat) (x : Str) (ps ks : List Str) (g : List Value → List Value) (gV : List V → List V) (sp : Sp) : Prop where
  ex : ∃ (f : Addr) (fd : FuncData), FnOk P w K mg base CX k f fd ps sp ∧ mg x = some (.ref f) ∧ PySem.W.keepIn K (.ref f) = true ∧ KBn K fd ps 0 ks (fun _ ws => g ws) (fun _ zs => gV zs)
section
variable {P : Program} {w : World} {K : PySem.W.Frag} {mg : Str → Option Value} {base : Heap} {CX : CXT} {k : Nat} {x : Str} {ps ks : List Str} {g : List Value → List Value} {gV : List V → List V} {sp : Sp}
theorem DefK.of {st : Stmt} (D : Def P w K mg base CX k x ps sp) (A : At K mg x st ps) (rel : ∀ {zs : List V} {ws : List Value}, Vals zs ws → Vals (gV zs) (g ws))
    (h : ∀ (kV doc pm : Value) (an : Option Addr) (cdv ct : Value) (ws : List Value), ws.length = ks.length → bindArgs (PySem.W.fnOf x x (defArgs st) (defBody st) (defScope st) .none kV doc pm an cdv ct) ⟨[], ks.zip ws⟩ = pure (ps.zip (g ws))) : DefK P w K mg base CX k x ps ks g gV sp := by
  obtain ⟨f, fd, F, m, kp, _, oc, od, osl, lk⟩ := D.ex
  obtain ⟨f', fd', Fn, m', _⟩ := A.ex
  obtain ⟨oc', od', kV, doc, pm, an, cdv, ct, osl', e, lk', _⟩ := Fn.ex
  rw [m] at m'
  cases m'
  rw [lk] at lk'
  cases lk'
  subst e
  refine ⟨f, _, F, m, kp, ⟨fun s us ws _ l1 l2 => ?_, fun _ rz => rel rz⟩⟩
  have eu : us = [] := List.eq_nil_of_length_eq_zero l1
  subst eu
  exact BindsTo.of_eq (h kV doc pm an cdv ct ws l2)
end
section
variable {X : Cx} {CX : CXT} {k : Nat} {ps ks : List Str} {sp : Sp} {E : XK} {x : Str} {p pos : Pos} {kws : List Keyword} {tk : TA} {g : List Value → List Value} {gV : List V → List V}
def tCallW (n : Nat) (sp : Sp) (gV : List V → List V) (E : XK) (tk : TA) : TE := fun σ H Q => tk σ H fun zs H2 => zs.length = n ∧ sp (gV zs) H2 Q E
theorem pe_defK (D : DefK X.prog X.w X.K X.mg X.base CX k x ps ks g gV sp) (hr : Room k X.A) (hg : Gl X x) (hx : Passes CX X E) (hkw : PK X kws tk) (hall : (backToKw pos (keywordEach kws X.env)).all (·.1.isSome) = true := by rfl) (hks : (backToKw pos (keywordEach kws X.env)).filterMap (·.1) = ks := by rfl)
    (hdb : (x == ("__debug__" : Str)) = false := by decide) (hpl : ((backTo pos (starEach [] X.env)).any (·.1) || (backToKw pos (keywordEach kws X.env)).any (·.1.isNone)) = false := by rfl) :
    PE X (.Call (.Name x p) [] kws pos) (tCallW ks.length sp gV E tk) := by
  obtain ⟨f, fd, F, m, kp, b⟩ := D.ex
  constructor
  intro pins s σ H Q I h
  apply wpAny_Call_Name_kw
  apply ld_glob I hg m _ hdb
  apply PySem.W.callWith_KW0 (h₀ := X.base) I.ok.mod.kin kp hall _ hpl
  apply thn (hkw.run pos pins s σ H _ I h)
  rintro ws s2 ⟨zs, H2, I2, rz, ln, q2⟩
  refine ⟨I2.kIn, ?_⟩
  rw [hks]
  exact run_fnN (us := []) (vs := []) F hr b hx I2 .nil rz rfl ln q2
end
end BK
set_option Elab.async false
set_option linter.all false
set_option maxRecDepth 100000
set_option maxHeartbeats 4000000
/-! P14: the law itself. -/
namespace K0
open PySem PySem.Spec PyProof.Rows L2 BK LamX
def spLaw (K : PySem.W.Frag) (T : List (Addr × Str)) (PG : Addr) : Sp := fun vs H Q _ => ∃ (a : Addr) (ns : List Int), vs = [.ref a] ∧ SqL K H a (ns.map V.int) ∧ ns.length ≤ 63 ∧ Tb T PG H ∧ ∀ H', Q (.bl true) H'
def nLa : List Str := ["script", "state", "turn", "step", "days_so", "long_so", "first", "great", "got"]
/-- the tables and the state -/
structure LS (T : List (Addr × Str)) (PG st la ca : Addr) (m : Nat) (H : Hp) : Prop where
  tb : Tb T PG H
  sh : StH st la ca m H
theorem LS.new {T : List (Addr × Str)} {PG st la ca p : Addr} {m : Nat} {H : Hp} {o : HO} (s : LS T PG st la ca m H) (h : H p = none) : LS T PG st la ca m (upd H p o) :=
  ⟨tb_new h s.tb, s.sh.put (s.sh.away h).1 (s.sh.away h).2.1 (s.sh.away h).2.2⟩
theorem LS.sd {T : List (Addr × Str)} {PG st la ca : Addr} {m : Nat} {H H' : Hp} (s : LS T PG st la ca m H) (d : Sd st la H H') (n : StH st la ca (m + 1) H') : LS T PG st la ca (m + 1) H' := ⟨tb_sd s.sh d s.tb, n⟩
theorem LS.gr {T : List (Addr × Str)} {PG st la ca : Addr} {m : Nat} {H H' : Hp} (s : LS T PG st la ca m H) (g : Gr T PG H H') : LS T PG st la ca m H' := by
  obtain ⟨cells, lefts, h1, h2, h3, r⟩ := s.sh.ex
  exact ⟨g.tb, cells, lefts, g.ext _ _ h1 (fun _ z => by cases z), g.lst h2, g.lst h3, r⟩
theorem LS.tup {T : List (Addr × Str)} {PG st la ca p : Addr} {m : Nat} {H H' : Hp} {xs : List V} (s : LS T PG st la ca m H) (d : Sd st la H H') (h : H p = some (.tup xs)) : H' p = some (.tup xs) := by
  obtain ⟨cells, lefts, h1, h2, h3, r⟩ := s.sh.ex
  rw [d p (fun z => by rw [z, h1] at h; cases h) (fun z => by rw [z, h3] at h; cases h)]
  exact h
theorem tup_new {H : Hp} {p q : Addr} {o : HO} {xs : List V} (h : H p = some (.tup xs)) (n : H q = none) : upd H q o p = some (.tup xs) := by
  rw [upd_ne (fun z => by rw [z, n] at h; cases h)]
  exact h
theorem lst_new {H : Hp} {p q : Addr} {o : HO} {xs : List V} (h : H p = some (.lst xs)) (n : H q = none) : upd H q o p = some (.lst xs) := by
  rw [upd_ne (fun z => by rw [z, n] at h; cases h)]
  exact h
/-- a plain thing: what it is everywhere, and that it may be shown -/
def Plain (K : PySem.W.Frag) (x : V) : Prop := ∃ f, (∀ H : Hp, Rep K H x f) ∧ Shw f 3000 5
theorem plain_int {K : PySem.W.Frag} {i : Int} (h : i.natAbs < 10 ^ 10) : Plain K (.int i) := ⟨.int i, fun _ => .int i, (shw_int h).mono (by decide) (by decide)⟩
theorem plain_bl {K : PySem.W.Frag} (b : Bool) : Plain K (.bl b) := ⟨.bool b, fun _ => .bl b, (shw_bl b).mono (by decide) (by decide)⟩
theorem plain_non {K : PySem.W.Frag} : Plain K .non := ⟨.none, fun _ => .non, shw_non.mono (by decide) (by decide)⟩
theorem plain_one {K : PySem.W.Frag} : Plain K (.str "1") := ⟨.str "1", fun _ => .str _, ⟨⟨by decide +kernel, by decide +kernel, by decide +kernel⟩, by decide +kernel⟩⟩
theorem mem_rep {v : V} {n : Nat} {zs : List V} (h : v ∈ (List.replicate n zs).flatten) : v ∈ zs := by
  obtain ⟨l, hl, hv⟩ := List.mem_flatten.mp h
  rw [List.eq_of_mem_replicate hl] at hv
  exact hv
theorem mem_rgV {v : V} {b : Int} (h : v ∈ rgV 0 b) : ∃ i : Int, v = .int i ∧ 0 ≤ i ∧ i < b := by
  rw [rgV_eq] at h
  obtain ⟨i, hi, rfl⟩ := List.mem_map.mp h
  exact ⟨i, rfl, mem_rgI.mp hi⟩
theorem rep_ok {b : Int} (h : b ≤ 84) : (rgV 0 b).length * (2 : Int).toNat ≤ sizeLine := by
  have e : (2 : Int).toNat = 2 := rfl
  rw [sizeLine_eq, rgV_length, e]
  omega
/-- the parts of the law -/
structure Pt (P : Program) (w : World) (K : PySem.W.Frag) (mg : Str → Option Value) (base : Heap) (T : List (Addr × Str)) (PG D S M N : Addr) : Prop where
  begin : Def P w K mg base CX0 1 "_law_begin" ["script"] (spBegin K)
  draw : Def P w K mg base CX0 2 "_law_draw" ["state", "limit"] spDraw
  of : Def P w K mg base CX0 3 "_law_of" ["state", "some"] spOf
  hours : DefG P w K mg base 11 "_law_hours_right" ["days_so"] (spDaysIn K T PG)
  held : DefG P w K mg base 11 "_law_held_right" ["days_so", "long_so", "first"] (spHeldRight K T PG)
  sets : DefG P w K mg base 11 "_law_sets_right" ["state"] (spSetsRight T PG)
  odd : DefG P w K mg base 11 "_law_odd_days" [] (spOddDays T PG)
  kHours : DefK P w K mg base (L2.CX P w) 7 "hours_in" ["days"] ["days"] (fun ws => ws) (fun zs => zs) (spHoursIn K T PG D)
  kDayOf : DefK P w K mg base (L2.CX P w) 8 "day_of" ["days", "hour"] ["hour", "days"] (fun ws => [ws.getD 1 .none, ws.getD 0 .none]) (fun zs => [zs.getD 1 .non, zs.getD 0 .non]) (spDayOf K T PG D M)
  kDayHours : DefK P w K mg base (L2.CX P w) 8 "day_hours" ["days", "day"] ["day", "days"] (fun ws => [ws.getD 1 .none, ws.getD 0 .none]) (fun zs => [zs.getD 1 .non, zs.getD 0 .non]) (spDayHours K T PG D M)
  kHeld : DefK P w K mg base (L2.CX P w) 8 "held_hours" ["days", "length", "hour"] ["hour", "days", "length"] (fun ws => [ws.getD 1 .none, ws.getD 2 .none, ws.getD 0 .none]) (fun zs => [zs.getD 1 .non, zs.getD 2 .non, zs.getD 0 .non]) (spHeld K T PG D M N)
section
variable {P : Program} {w : World} {K : PySem.W.Frag} {mg : Str → Option Value} {base : Heap} {T : List (Addr × Str)} {PG D S M N HE : Addr}
theorem scLaw : FnScope nLa ["script"] (defScope sLaw) := ⟨rfl, rfl, rfl, by decide +kernel, rfl, by decide +kernel, by decide +kernel⟩
theorem def_law (L : Lw P w K mg base T PG D S M N HE) (Z : Pt P w K mg base T PG D S M N) (F : At K mg "law" sLaw ["script"]) : DefG P w K mg base 12 "law" ["script"] (spLaw K T PG) := by
  refine F.okG scLaw (fun vs H Q E h => ?_) (fun fa cdv A outer s H vs Q E hgd hr h => ?_)
  · obtain ⟨a, ns, rfl, _⟩ := h
    rfl
  · obtain ⟨a, ns, rfl, ha, hn, tg, q⟩ := h
    refine ⟨_, pss_cons (ps_set (i := 1) scLaw.nd rfl (Or.inr rfl) (pe_def Z.begin (hr.mono (by decide)) (by rfl) pass0 (pa_cons (pv 0) pa_nil)))
      (pss_cons (ps_for PassesOwn.never rfl (pi_range1 (by rfl) L.bl.rng (pa_cons pe_int pa_nil)) (pg_name (i := 2) scLaw.nd rfl (Or.inl rfl))
        (pss_cons (ps_set (i := 4) scLaw.nd rfl (Or.inl rfl) (pe_callTy (r := rTupOf K) call_tuple_of (by rfl) L.bl.tup sTup (pa_cons
            (pe_lc (own := [("step", 3)]) (g := gName 3) (tt := tYes) rfl scLaw.nd (pi_range1 (by rfl) L.bl.rng (pa_cons (pe_op op_add pe_int (pe_def Z.draw (hr.mono (by decide)) (by rfl) pass0 (pa_cons (pv 1) (pa_cons pe_int pa_nil)))) pa_nil)) (blkOk_by (N := nLa) (sc := defScope sLaw) (by decide +kernel)) (fun _ _ _ _ _ => pg_name (i := 3) scLaw.nd rfl (Or.inl rfl)) (fun _ _ _ _ _ => pts_nil)
              (fun _ _ _ _ _ => pe_op op_add pe_int (pe_def Z.draw (hr.mono (by decide)) (by rfl) pass0 (pa_cons (pv 1) (pa_cons pe_int pa_nil))))) pa_nil)))
        (pss_cons (ps_if (pt_not (pt_val (pe_defG Z.hours hgd hr (by rfl) (pa_cons (pv 4) pa_nil)))) (pss_one (ps_ret pe_bl)) pss_nil)
        (pss_one (ps_for PassesOwn.never rfl (pi_range1 (by rfl) L.bl.rng (pa_cons pe_int pa_nil)) (pg_name (i := 3) scLaw.nd rfl (Or.inl rfl))
          (pss_cons (ps_set (i := 5) scLaw.nd rfl (Or.inl rfl) (pe_def Z.of (hr.mono (by decide)) (by rfl) pass0 (pa_cons (pv 1) (pa_cons (pe_op op_cat (pe_lst (pa_cons pe_int (pa_cons pe_int (pa_cons pe_int (pa_cons pe_int (pa_cons pe_int (pa_cons pe_int (pa_cons pe_bl (pa_cons pe_non (pa_cons pe_str pa_nil))))))))))
              (pe_op op_rep (pe_lst (pa_cons pe_int (pa_cons pe_int (pa_cons pe_int (pa_cons pe_int pa_nil))))) pe_int)) pa_nil))))
          (pss_cons (ps_set (i := 6) scLaw.nd rfl (Or.inl rfl) (pe_def Z.of (hr.mono (by decide)) (by rfl) pass0 (pa_cons (pv 1) (pa_cons (pe_op op_cat (pe_lst (pa_cons (pe_un un_neg pe_int) (pa_cons (pe_callB (cr_sumT rfl) (by rfl) L.bl.sum sSum (pa_cons (pv 4) pa_nil)) (pa_cons pe_bl (pa_cons pe_non (pa_cons (pe_tup (pa_cons pe_int pa_nil)) pa_nil))))))
              (pe_op op_rep (pe_listRg rfl (by rfl) L.bl.lst (prg_1 (by rfl) L.bl.rng (pe_callB (cr_sumT rfl) (by rfl) L.bl.sum sSum (pa_cons (pv 4) pa_nil)))) pe_int)) pa_nil))))
          (pss_one (ps_if (pt_not (pt_val (pe_defG Z.held hgd hr (by rfl) (pa_cons (pv 4) (pa_cons (pv 5) (pa_cons (pv 6) pa_nil)))))) (pss_one (ps_ret pe_bl)) pss_nil)))))))))
      (pss_cons (ps_if (pt_or (po_cons (pt_not (pt_val (pe_defG Z.sets hgd hr (by rfl) (pa_cons (pv 1) pa_nil)))) (po_cons (pt_not (pt_val (pe_defG0 Z.odd hgd hr (by rfl)))) po_nil))) (pss_one (ps_ret pe_bl)) pss_nil)
      (pss_cons (ps_set (i := 7) scLaw.nd rfl (Or.inl rfl) (pe_op op_repT (pe_tup (pa_cons pe_int pa_nil)) pe_int))
      (pss_cons (ps_set (i := 8) scLaw.nd rfl (Or.inl rfl) (pe_lst (pa_cons (pe_defK (E := E0) Z.kHours (hr.mono (by decide)) (by rfl) passN (pk_cons (pv 7) pk_nil)) (pa_cons (pe_defK (E := E0) Z.kDayOf (hr.mono (by decide)) (by rfl) passN (pk_cons pe_int (pk_cons (pv 7) pk_nil)))
          (pa_cons (pe_ix ix_tup (pe_defK (E := E0) Z.kDayHours (hr.mono (by decide)) (by rfl) passN (pk_cons pe_int (pk_cons (pv 7) pk_nil))) pe_int (by intro _ _; rfl)) pa_nil)))))
      (pss_cons (ps_expr (pe_bm PySem.F.plainAttrs_list PySem.F.slot_list_append PySem.F.type_list_append mt_append (pv 8) (pa_cons (pe_defK (E := E0) Z.kHeld (hr.mono (by decide)) (by rfl) passN (pk_cons pe_int (pk_cons (pv 7) (pk_cons pe_int pk_nil)))) pa_nil)))
      (pss_one (ps_ret (pe_defG L.like hgd (hr.mono (by decide)) (by rfl) (pa_cons (pv 8) (pa_cons (pe_lst (pa_cons pe_int (pa_cons pe_int (pa_cons pe_int (pa_cons (pe_tup (pa_cons pe_int (pa_cons pe_int (pa_cons pe_int (pa_cons pe_int pa_nil))))) pa_nil))))) pa_nil)))))))))), ?_⟩
    refine ⟨_, rfl, a, ns, rfl, ha, hn, fun st la ca H1 s1 nst nla hst => ?_⟩
    have ls1 : LS T PG st la ca 0 H1 := ⟨tb_same s1 tg, hst⟩
    clear s1 nst nla hst tg ha hn
    refine ⟨2, rfl, by decide, by decide, ?_⟩
    refine for_range (fun i σ H' => ∃ (m : Nat) (x2 x3 x4 x5 x6 : Option V), LS T PG st la ca m H' ∧ m ≤ 40 * i ∧ σ = [some (.ref a), some (.ref st), x2, x3, x4, x5, x6, none, none]) ?_ ?_ ?_
    · exact ⟨0, none, none, none, none, none, ls1, by omega, rfl⟩
    · rintro i σ H2 hi ⟨m, x2, x3, x4, x5, x6, ls2, hm, rfl⟩
      have hi2 : i < 2 := hi
      refine ⟨_, rfl, st, la, ca, m, 7, rfl, ls2.sh, by omega, by decide, by decide, fun r H3 r0 r1 sd3 sh3 => ⟨1, r, rfl, rfl, 1 + r, rfl, by omega, by omega, fun D0 hD => ?_⟩⟩
      have ls3 := ls2.sd sd3 sh3
      obtain ⟨nDs, nDl, nDc⟩ := sh3.away hD
      refine lc_range (fun k H' => LS T PG st la ca (m + 1 + k) H' ∧ ∃ ds : List Int, H' D0 = some (.lst (ds.map V.int)) ∧ ds.length = k ∧ ∀ x ∈ ds, 1 ≤ x ∧ x ≤ 12) ?_ ?_ ?_
      · exact ⟨ls3.new hD, [], upd_same, rfl, by simp⟩
      · rintro k H' hk ⟨ls, ds, hds, lds, bds⟩
        refine ⟨rfl, yes ?_⟩
        rw [if_pos rfl]
        refine ⟨_, rfl, st, la, ca, _, 5, rfl, ls.sh, by omega, by decide, by decide, fun u H'' u0 u1 sd sh => ?_⟩
        have hds' : H'' D0 = some (.lst (ds.map V.int)) := by rw [sd D0 nDs nDl]; exact hds
        have ls' := ls.sd sd sh
        refine ⟨1, u, rfl, rfl, _, hds', by rw [sizeLine_eq, List.length_map]; omega, ⟨tb_mut hds' (fun _ z => by cases z) (fun _ z => by unfold CodeO at z; cases z) ls'.tb, ls'.sh.put nDs nDl nDc⟩, ds ++ [1 + u], ?_, by simp [lds], ?_⟩
        · rw [upd_same, List.map_append]
          rfl
        · intro x hx
          rcases List.mem_append.mp hx with e | e
          · exact bds x e
          · have : x = 1 + u := by simpa using e
            omega
      · rintro H4 ⟨ls4, ds, hds, lds, bds⟩
        have ok : OkN ds := ⟨by omega, by omega, bds⟩
        refine ⟨D0, _, rfl, .inl ⟨SqL.of hds, fun p hp => ?_⟩⟩
        have hp5 : upd H4 p (.tup (ds.map V.int)) p = some (.tup (ds.map V.int)) := upd_same
        have ls5 := ls4.new (o := .tup (ds.map V.int)) hp
        generalize upd H4 p (.tup (ds.map V.int)) = H5 at hp5 ls5 ⊢
        generalize hM : m + 1 + (1 + r).toNat = M1 at ls5
        have hM1 : M1 ≤ 40 * i + 8 := by omega
        clear ls4 hds lds bds ls3 nDs nDl nDc hD sd3 sh3 ls2 hp
        refine ⟨_, rfl, p, ds, rfl, .inl (.inl hp5), ok, ls5.tb, fun H6 g6 => ⟨_, rfl, ?_⟩⟩
        have ls6 := ls5.gr g6
        have hp6 := g6.tup hp5
        refine ⟨6, rfl, by decide, by decide, ?_⟩
        refine for_range (fun j σ H' => ∃ (m' : Nat) (x3 x5 x6 : Option V), LS T PG st la ca m' H' ∧ m' ≤ M1 + 2 * j ∧ H' p = some (.tup (ds.map V.int)) ∧ σ = [some (.ref a), some (.ref st), some (.int (0 + (i : Nat))), x3, some (.ref p), x5, x6, none, none]) ?_ ?_ ?_
        · exact ⟨M1, _, _, _, ls6, by omega, hp6, rfl⟩
        · rintro j σ H7 hj ⟨m', y3, y5, y6, ls7, hm7, hp7, rfl⟩
          have hj6 : j < 6 := hj
          have hsum := ok.sum
          -- long_so
          refine ⟨_, rfl, by show 9 ≤ sizeLine; decide, fun l1 k1 => ⟨by show 4 ≤ sizeLine; decide, fun l2 k2 => ⟨l2, 3, _, rfl, rfl, upd_same, by decide, by decide, by rw [sizeLine_eq]; decide, fun l3 k3 => ?_⟩⟩⟩
          have q1 := ls7.new (o := .lst [.int 1, .int 2, .int 3, .int 4, .int 0, .int 5, .bl true, .non, .str "1"]) k1
          have q2 := q1.new (o := .lst [.int 1, .int 2, .int 3, .int 4]) k2
          have q3 := q2.new (o := .lst (List.replicate (3 : Int).toNat [V.int 1, .int 2, .int 3, .int 4]).flatten) k3
          have p3 := tup_new (o := .lst (List.replicate (3 : Int).toNat [V.int 1, .int 2, .int 3, .int 4]).flatten) (tup_new (o := .lst [.int 1, .int 2, .int 3, .int 4]) (tup_new (o := .lst [.int 1, .int 2, .int 3, .int 4, .int 0, .int 5, .bl true, .non, .str "1"]) hp7 k1) k2) k3
          refine ⟨l1, l3, _, _, rfl, rfl, lst_new (lst_new upd_same k2) k3, upd_same, by rw [sizeLine_eq]; decide, fun l4 k4 => ?_⟩
          have q4 := q3.new (o := .lst ([.int 1, .int 2, .int 3, .int 4, .int 0, .int 5, .bl true, .non, .str "1"] ++ (List.replicate (3 : Int).toNat [V.int 1, .int 2, .int 3, .int 4]).flatten)) k4
          have p4 := tup_new (o := .lst ([.int 1, .int 2, .int 3, .int 4, .int 0, .int 5, .bl true, .non, .str "1"] ++ (List.replicate (3 : Int).toNat [V.int 1, .int 2, .int 3, .int 4]).flatten)) p3 k4
          refine ⟨st, la, ca, l4, m', _, rfl, q4.sh, by omega, upd_same, (q3.sh.away k4).2.1, by decide, by decide, fun x H8 hx sd8 sh8 => ?_⟩
          have ls8 := q4.sd sd8 sh8
          have hp8 := q4.tup sd8 p4
          have px : Plain K x := by
            rcases List.mem_append.mp hx with e | e
            · simp only [List.mem_cons, List.not_mem_nil, or_false] at e
              rcases e with rfl | rfl | rfl | rfl | rfl | rfl | rfl | rfl | rfl
              · exact plain_int (by decide)
              · exact plain_int (by decide)
              · exact plain_int (by decide)
              · exact plain_int (by decide)
              · exact plain_int (by decide)
              · exact plain_int (by decide)
              · exact plain_bl _
              · exact plain_non
              · exact plain_one
            · have e := mem_rep e
              simp only [List.mem_cons, List.not_mem_nil, or_false] at e
              rcases e with rfl | rfl | rfl | rfl <;> exact plain_int (by decide)
          clear q1 q2 q3 q4 p3 p4 k1 k2 k3 k4 sd8 sh8 hx
          -- first
          refine ⟨_, rfl, _, rfl, _, rfl, p, ds, rfl, .inl (.inl hp8), by show 1 ≤ sizeLine; decide, fun t1 kt => ⟨by show 5 ≤ sizeLine; decide, fun l5 k5 => ?_⟩⟩
          have q1 := ls8.new (o := .tup [.int 0]) kt
          have q2 := q1.new (o := .lst [.int (-1), .int ds.sum, .bl false, .non, .ref t1]) k5
          have p2 := tup_new (o := .lst [.int (-1), .int ds.sum, .bl false, .non, .ref t1]) (tup_new (o := .tup [.int 0]) hp8 kt) k5
          have t2 := tup_new (o := .lst [.int (-1), .int ds.sum, .bl false, .non, .ref t1]) (show upd H8 t1 (.tup [.int 0]) t1 = some (.tup [.int 0]) from upd_same) k5
          refine ⟨_, rfl, p, ds, rfl, .inl (.inl p2), _, rfl, RgOk.of_le (by omega) (by omega) (by omega) (by omega), fun l6 k6 => ⟨l6, 2, _, rfl, rfl, upd_same, by decide, by decide, rep_ok hsum.2, fun l7 k7 => ?_⟩⟩
          have q3 := q2.new (o := .lst (rgV 0 ds.sum)) k6
          have q4 := q3.new (o := .lst (List.replicate (2 : Int).toNat (rgV 0 ds.sum)).flatten) k7
          have p4 := tup_new (o := .lst (List.replicate (2 : Int).toNat (rgV 0 ds.sum)).flatten) (tup_new (o := .lst (rgV 0 ds.sum)) p2 k6) k7
          have t4 := tup_new (o := .lst (List.replicate (2 : Int).toNat (rgV 0 ds.sum)).flatten) (tup_new (o := .lst (rgV 0 ds.sum)) t2 k6) k7
          have len5 : ([.int (-1), .int ds.sum, .bl false, .non, .ref t1] : List V).length = 5 := rfl
          have lenR : (List.replicate (2 : Int).toNat (rgV 0 ds.sum)).flatten.length ≤ 200 := by
            have e : (2 : Int).toNat = 2 := rfl
            rw [e]
            simp only [List.length_flatten, List.map_replicate, List.sum_replicate_nat, rgV_length]
            omega
          refine ⟨l5, l7, _, _, rfl, rfl, lst_new (lst_new upd_same k6) k7, upd_same, by rw [sizeLine_eq, len5]; omega, fun l8 k8 => ?_⟩
          have q5 := q4.new (o := .lst ([.int (-1), .int ds.sum, .bl false, .non, .ref t1] ++ (List.replicate (2 : Int).toNat (rgV 0 ds.sum)).flatten)) k8
          have p5 := tup_new (o := .lst ([.int (-1), .int ds.sum, .bl false, .non, .ref t1] ++ (List.replicate (2 : Int).toNat (rgV 0 ds.sum)).flatten)) p4 k8
          have t5 := tup_new (o := .lst ([.int (-1), .int ds.sum, .bl false, .non, .ref t1] ++ (List.replicate (2 : Int).toNat (rgV 0 ds.sum)).flatten)) t4 k8
          refine ⟨st, la, ca, l8, m' + 1, _, rfl, q5.sh, by omega, upd_same, (q4.sh.away k8).2.1, by rw [List.length_append, len5]; omega, by rw [List.length_append, len5]; omega, fun y H9 hy sd9 sh9 => ?_⟩
          have ls9 := q5.sd sd9 sh9
          have hp9 := q5.tup sd9 p5
          have ht9 := q5.tup sd9 t5
          have py : ∃ e, Rep K H9 y e ∧ Shw e 3000 5 := by
            have pl : Plain K y → ∃ e, Rep K H9 y e ∧ Shw e 3000 5 := fun ⟨e, r, s⟩ => ⟨e, r H9, s⟩
            rcases List.mem_append.mp hy with e | e
            · simp only [List.mem_cons, List.not_mem_nil, or_false] at e
              rcases e with rfl | rfl | rfl | rfl | rfl
              · exact pl (plain_int (by decide))
              · exact pl (plain_int (by omega))
              · exact pl (plain_bl _)
              · exact pl plain_non
              · exact ⟨.tuple [.int 0], .tup (.inl (.inl ht9)) (.cons (.int 0) .nil), (shw_intsT (ns := [0]) (n := 3000) (by simp) (by decide)).mono (by decide) (by decide)⟩
            · obtain ⟨i, rfl, i0, i1⟩ := mem_rgV (mem_rep e)
              exact pl (plain_int (by omega))
          obtain ⟨f, rf, sf⟩ := px
          obtain ⟨e, re, se⟩ := py
          clear q1 q2 q3 q4 q5 p2 p4 p5 t2 t4 t5 kt k5 k6 k7 k8 sd9 sh9 hy
          refine ⟨_, rfl, _, rfl, _, rfl, p, ds, x, y, f, e, rfl, .inl (.inl hp9), ok, ls9.tb, rf H9, re, sf, se, fun H10 g10 => ⟨_, rfl, ?_⟩⟩
          exact ⟨m' + 1 + 1, _, _, _, ls9.gr g10, by omega, g10.tup hp9, rfl⟩
        · rintro σ H7 ⟨m', y3, y5, y6, ls7, hm7, hp7, rfl⟩
          have e6 : (6 : Int).toNat = 6 := rfl
          rw [e6] at hm7
          exact ⟨m', _, _, _, _, _, ls7, by omega, rfl⟩
    · rintro σ H2 ⟨m, x2, x3, x4, x5, x6, ls2, hm, rfl⟩
      have e2 : (2 : Int).toNat = 2 := rfl
      rw [e2] at hm
      refine ⟨_, rfl, st, la, ca, m, rfl, ls2.sh, by omega, ls2.tb, fun H3 tb3 => ⟨_, rfl, ?_⟩⟩
      refine ⟨rfl, tb3, fun H4 g4 => ⟨_, rfl, ?_⟩⟩
      have tb4 := g4.tb
      clear tb3 g4 ls2 ls1
      clear H3 H2
      -- the greatest days
      refine ⟨by show 1 ≤ sizeLine; decide, fun d1 h1 => ⟨d1, 7, _, rfl, rfl, .inl (.inl upd_same), (by simp), by decide, by decide, (by simp), fun g2 h2 => ?_⟩⟩
      have tb5 := tb_new (o := .tup (List.replicate (7 : Int).toNat [V.int 12]).flatten) h2 (tb_new (o := .tup [.int 12]) h1 tb4)
      let gs : List Int := [12, 12, 12, 12, 12, 12, 12]
      have hg : upd (upd H4 d1 (.tup [.int 12])) g2 (.tup (List.replicate (7 : Int).toNat [V.int 12]).flatten) g2 = some (.tup (gs.map V.int)) := upd_same
      have ok : OkN gs := ⟨by decide, by decide, by decide⟩
      generalize upd (upd H4 d1 (.tup [.int 12])) g2 (.tup (List.replicate (7 : Int).toNat [V.int 12]).flatten) = H5 at tb5 hg ⊢
      have g0 := Gr.refl tb5
      refine ⟨_, rfl, rfl, .ref g2, _, rfl, .of (.inl (.inl hg)) ok tb5 fun H6 g6 => ?_⟩
      have hg6 := g6.tup hg
      refine ⟨_, rfl, rfl, .ref g2, _, .int 83, _, rfl, .int _, .of (.inl (.inl hg6)) ok g6.tb ⟨fun z => absurd z (by decide), fun h eh _ _ H7 g7 => ?_⟩⟩
      cases eh
      have hg7 := g7.tup hg6
      refine ⟨_, rfl, rfl, .ref g2, _, .int 6, _, rfl, .int _, .of (.inl (.inl hg7)) ok g7.tb ⟨fun z => absurd z (by decide), fun j ej hj H8 p g8 hp => ?_⟩⟩
      have ej6 : j = 6 := by
        have := PyData.int.inj ej
        omega
      subst ej6
      have hg8 := g8.tup hg7
      refine ⟨p, _, 0, .int 72, rfl, rfl, .inl (.inl hp), by decide, by show 3 ≤ sizeLine; decide, fun l hl => ?_⟩
      have g9 := (Gr.refl g8.tb).new (o := .lst [.int gs.sum, .int (dayAt gs 83 : Nat), .int 72]) hl
      have hg9 := g9.tup hg8
      have hl9 : upd H8 l (.lst [.int gs.sum, .int (dayAt gs 83 : Nat), .int 72]) l = some (.lst [.int gs.sum, .int (dayAt gs 83 : Nat), .int 72]) := upd_same
      show tSeq _ _ _ _ (upd H8 l (.lst [.int gs.sum, .int (dayAt gs 83 : Nat), .int 72]))
      generalize upd H8 l (.lst [.int gs.sum, .int (dayAt gs 83 : Nat), .int 72]) = H9 at g9 hg9 hl9 ⊢
      refine ⟨_, rfl, .inl ⟨rfl, _, SqL.of hl9⟩, ?_⟩
      refine ⟨_, rfl, rfl, .ref g2, _, .int 4, .int 4, .int 80, .int 80, rfl, .int _, .int _, .of (.inl (.inl hg9)) ok g9.tb ⟨fun z => absurd z (by decide), fun _ z => absurd z (by decide), fun len h e1 e2 _ _ _ _ => ?_⟩⟩
      cases e1
      cases e2
      have inS : (80 : Int) ∈ starts gs 4 := by decide
      refine ⟨fun z => absurd inS z, fun _ H10 t g10 ht => ?_⟩
      have hl10 := g10.lst hl9
      refine ⟨l, _, .ref t, rfl, rfl, hl10, by show 3 < sizeLine; decide, ?_⟩
      have ntl : t ≠ l := fun z => by rw [z, hl10] at ht; cases ht
      have ht11 : upd H10 l (.lst ([.int gs.sum, .int (dayAt gs 83 : Nat), .int 72] ++ [.ref t])) t = some (.tup (rgV 80 (80 + 4))) := by rw [upd_ne ntl]; exact ht
      have hl11 : upd H10 l (.lst ([.int gs.sum, .int (dayAt gs 83 : Nat), .int 72] ++ [.ref t])) l = some (.lst [.int gs.sum, .int (dayAt gs 83 : Nat), .int 72, .ref t]) := upd_same
      generalize upd H10 l (.lst ([.int gs.sum, .int (dayAt gs 83 : Nat), .int 72] ++ [.ref t])) = H11 at ht11 hl11 ⊢
      refine ⟨_, rfl, by show 4 ≤ sizeLine; decide, fun t2 k2 => ⟨by show 4 ≤ sizeLine; decide, fun l2 k3 => ?_⟩⟩
      have e1 : (gs.sum : Int) = 84 := by decide
      have e2 : ((dayAt gs 83 : Nat) : Int) = 6 := by decide
      have e3 : rgV 80 (80 + 4) = ([80, 81, 82, 83] : List Int).map V.int := by decide
      have f1 : upd (upd H11 t2 (.tup [.int 80, .int 81, .int 82, .int 83])) l2 (.lst [.int 84, .int 6, .int 72, .ref t2]) l = some (.lst [.int gs.sum, .int (dayAt gs 83 : Nat), .int 72, .ref t]) := lst_new (lst_new hl11 k2) k3
      have f2 : upd (upd H11 t2 (.tup [.int 80, .int 81, .int 82, .int 83])) l2 (.lst [.int 84, .int 6, .int 72, .ref t2]) t = some (.tup (rgV 80 (80 + 4))) := tup_new (tup_new ht11 k2) k3
      have f3 : upd (upd H11 t2 (.tup [.int 80, .int 81, .int 82, .int 83])) l2 (.lst [.int 84, .int 6, .int 72, .ref t2]) t2 = some (.tup (([80, 81, 82, 83] : List Int).map V.int)) := tup_new upd_same k3
      rw [e3] at f2
      rw [e1, e2] at f1
      refine ⟨l, l2, .list [.int 84, .int 6, .int 72, .tuple (([80, 81, 82, 83] : List Int).map .int)], 3000, 2, rfl, .lst (SqL.of f1) (.cons (.int _) (.cons (.int _) (.cons (.int _) (.cons (.tup (.inl (.inl f2)) (.ints _)) .nil)))), .lst (SqL.of upd_same) (.cons (.int _) (.cons (.int _) (.cons (.int _) (.cons (.tup (.inl (.inl f3)) (.ints _)) .nil)))), ?_, by decide, by decide, q _⟩
      exact ⟨⟨by decide +kernel, by decide +kernel, by decide +kernel⟩, by decide +kernel⟩
end
end K0
set_option Elab.async false
set_option linter.all false
set_option maxRecDepth 100000
set_option maxHeartbeats 4000000
/-! KitZ: the end of a law whose promise asks that no repr is under way. -/
namespace BK
open PySem PySem.Spec PyProof.Rows L2 LamX
/-- what the head leaves: cs, the code objects and their empty tables; the script's list at a -/
structure LawIn (K : PySem.W.Frag) (mg mb : Str → Option Value) (cs : List (Addr × Addr)) (s : Shared) (a : Addr) (vs : List Value) (ns : List Int) : Prop where
  kin : K.In s.heap
  glob : s.heap.Ns mainGlobals mg
  blt : s.heap.Ns builtinsNs mb
  same : ∀ x : Str, x ≠ "__name__" → mb x = bootBuiltins x
  lim : s.heap.NoLimit
  gens : s.gens = #[]
  tab : ∀ p ∈ cs, s.heap.get? p.2 = some { cls := .none, data := .fields #[] }
  notK : ∀ p ∈ cs, K.lookup p.2 = none
  code : ∀ p ∈ cs, PySem.W.CodeHd s.heap p.1 p.2
  main : ∃ (bm : Addr) (ob : Obj), mg "__builtins__" = some (.ref bm) ∧ bm ≠ builtinsNs ∧ s.heap.get? bm = some ob ∧ ob.cls = .type "module" ∧ ob.dict = some builtinsNs ∧ ob.data = .plain
  arg : s.heap.get? a = some { cls := .type "list", data := .seq vs.toArray }
  whole : IntsAre vs ns
  small : ns.length ≤ sizeLine
def script (vs : List Value) (ns : List Int) : HO := .frz { cls := .type "list", data := .seq vs.toArray } (.lst (ns.map V.int))
/-- tracked: the tables, and the script's list unless the written part has it -/
def lawH (K : PySem.W.Frag) (cs : List (Addr × Addr)) (a : Addr) (vs : List Value) (ns : List Int) : Hp := fun b =>
  if b ∈ cs.map (·.2) then some (.tbl #[]) else if b = a then (if (K.lookup a).isSome = true then none else some (script vs ns)) else none
section
variable {K : PySem.W.Frag} {mg mb : Str → Option Value} {cs : List (Addr × Addr)} {s : Shared} {a : Addr} {vs : List Value} {ns : List Int} (L : LawIn K mg mb cs s a vs ns)
theorem lawH_some {b : Addr} {u : HO} (h : lawH K cs a vs ns b = some u) : (b ∈ cs.map (·.2) ∧ u = .tbl #[]) ∨ (b = a ∧ b ∉ cs.map (·.2) ∧ K.lookup a = none ∧ u = script vs ns) := by
  unfold lawH at h
  split at h
  · exact .inl ⟨‹_›, (Option.some.inj h).symm⟩
  · split at h
    · split at h
      · cases h
      · rename_i n1 e n2
        refine .inr ⟨e, n1, ?_, (Option.some.inj h).symm⟩
        cases q : K.lookup a with
        | none => rfl
        | some o => rw [q] at n2; exact absurd rfl n2
    · cases h
theorem lawH_tab {p : Addr × Addr} (hp : p ∈ cs) : lawH K cs a vs ns p.2 = some (.tbl #[]) := if_pos (List.mem_map.mpr ⟨p, hp, rfl⟩)
include L
theorem LawIn.table {b : Addr} (hb : b ∈ cs.map (·.2)) : s.heap.get? b = some { cls := .none, data := .fields #[] } := by
  obtain ⟨p, hp, rfl⟩ := List.mem_map.mp hb
  exact L.tab p hp
theorem LawIn.away : a ∉ cs.map (·.2) := fun z => by
  have e := L.table z
  rw [L.arg] at e
  have d : Data.seq vs.toArray _ = Data.fields #[] := congrArg Obj.data (Option.some.inj e)
  cases d
/-- what is no sequence and no empty table is not tracked -/
theorem LawIn.plain {b : Addr} {o : Obj} (e : s.heap.get? b = some o) (h1 : ∀ us n, o.data ≠ .seq us n) (h2 : o.data ≠ .fields #[]) : lawH K cs a vs ns b = none := by
  cases q : lawH K cs a vs ns b with
  | none => rfl
  | some u =>
    rcases lawH_some q with ⟨hb, _⟩ | ⟨rfl, _⟩
    · rw [L.table hb] at e
      cases e
      exact absurd rfl h2
    · rw [L.arg] at e
      cases e
      exact absurd rfl (h1 _ _)
theorem LawIn.space {b : Addr} {m : Str → Option Value} (h : s.heap.Ns b m) : (hidT s.heap (lawH K cs a vs ns)).Ns b m := by
  obtain ⟨o, es, ep, e, d, r⟩ := h
  refine ⟨o, es, ep, hidT_get e (L.plain e (fun us n z => ?_) fun z => ?_), d, r⟩ <;> (rw [d] at z; cases z)
theorem LawIn.hidK : K.In (hidT s.heap (lawH K cs a vs ns)) := fun b o e => by
  refine hidT_get (L.kin b o e) ?_
  cases q : lawH K cs a vs ns b with
  | none => rfl
  | some u =>
    rcases lawH_some q with ⟨hb, _⟩ | ⟨rfl, _, n, _⟩
    · obtain ⟨p, hp, rfl⟩ := List.mem_map.mp hb
      rw [L.notK p hp] at e
      cases e
    · rw [n] at e
      cases e
theorem LawIn.mod : L2.Mod K mg (hidT s.heap (lawH K cs a vs ns)) := by
  obtain ⟨mc, h1, h2⟩ := L.lim
  exact ⟨L.hidK, L.space L.glob, ⟨mb, L.space L.blt, L.same⟩, mc, L.space h1, h2⟩
theorem LawIn.tabB {p : Addr × Addr} (hp : p ∈ cs) : TabB (hidT s.heap (lawH K cs a vs ns)) mg p.1 p.2 := by
  have tp := L.tab p hp
  obtain ⟨og, eg, epg, g1, g2, _⟩ := L.glob
  constructor
  · obtain ⟨o, us, file, tf, flags, tg, inF, text, tt, e1, r1, r2, r3, r⟩ := L.code p hp
    refine ⟨o, us, file, tf, flags, tg, inF, text, tt, hidT_get e1 (L.plain e1 (fun us n z => ?_) fun z => ?_), r1, r2, r3, r⟩
    · rw [r2] at z
      cases z
    · rw [r2] at z
      cases z
      simp at r3
  · obtain ⟨bm, ob, b1, b2, b3, b4, b5, b6⟩ := L.main
    refine ⟨bm, ob, b1, b2, fun z => ?_, fun z => ?_, hidT_get b3 (L.plain b3 (fun us n z => ?_) fun z => ?_), b4, b5, b6⟩
    · rw [z, g1] at b3
      cases b3
      rw [g2] at b6
      cases b6
    · rw [z, tp] at b3
      cases b3
      cases b6
    · rw [b6] at z
      cases z
    · rw [b6] at z
      cases z
  · intro z
    rw [z, tp] at g1
    cases g1
    cases g2
theorem LawIn.hok {P : Program} {w : World} : HOk P w (lawH K cs a vs ns) s.heap := fun b u h => by
  rcases lawH_some h with ⟨hb, rfl⟩ | ⟨rfl, _, _, rfl⟩
  · exact L.table hb
  · exact ⟨L.arg, by rw [List.length_map]; exact L.small, vs, _, vals_ints L.whole, L.arg⟩
theorem LawIn.sql : SqL K (lawH K cs a vs ns) a (ns.map V.int) := by
  have rv := vals_ints L.whole
  cases q : K.lookup a with
  | some o =>
    have e := L.kin a o q
    rw [L.arg] at e
    cases e
    exact .inr ⟨_, vs.toArray, _, q, rfl, rfl, rfl, by rw [List.size_toArray, L.whole.length]; exact L.small, by simpa using rv⟩
  | none =>
    refine .inl (.inr ⟨{ cls := .type "list", data := .seq vs.toArray }, ?_⟩)
    show (if a ∈ cs.map (·.2) then _ else _) = _
    rw [if_neg L.away, if_pos rfl, q]
    rfl
theorem LawIn.env {P : Program} {w : World} : Env0 P w K mg (hidT s.heap (lawH K cs a vs ns)) callerA [] s (lawH K cs a vs ns) where
  frames := rfl
  mod := L.mod
  bs := fun b o e => of_hidT e
  bsz := Nat.le_of_eq (hidT_size _ _)
  funs := trivial
  frf := fun b hb => absurd (show b ∈ ([] : List Addr) from hb) (by simp)
  hok := L.hok
  bare := .of_eq L.gens
/-- what stood stands, but for the tables, which may have grown -/
theorem LawIn.old {P : Program} {w : World} {s' : Shared} {H' : Hp} (un : Un (frs []) [] (lawH K cs a vs ns) H' s.heap s'.heap) (ok : HOk P w H' s'.heap) : OldK s.heap s'.heap := by
  have rest : ∀ b o, b ∉ cs.map (·.2) → s.heap.get? b = some o → s'.heap.get? b = some o := fun b o nb e => by
    cases q : lawH K cs a vs ns b with
    | none => exact un.keep b o e q (fun z => by cases (show b ∈ ([] : List Addr) from z)) (by simp)
    | some u =>
      rcases lawH_some q with ⟨hb, _⟩ | ⟨rfl, _, _, rfl⟩
      · exact absurd hb nb
      · obtain ⟨e1, _⟩ := L.hok (P := P) (w := w) b _ q
        obtain ⟨e2, _⟩ := ok b _ (un.frzs b _ _ q)
        rw [e] at e1
        cases e1
        exact e2
  have more : ∀ p ∈ cs, ∃ xs : Array Value, s'.heap.get? p.2 = some { cls := .none, data := .fields xs } := fun p hp => by
    obtain ⟨m, z⟩ := un.tbls p.2 #[] (lawH_tab hp)
    exact ⟨_, ok p.2 _ z⟩
  constructor
  · intro b o e
    by_cases hb : b ∈ cs.map (·.2)
    · obtain ⟨p, hp, rfl⟩ := List.mem_map.mp hb
      obtain ⟨xs, hx⟩ := more p hp
      rw [L.tab p hp] at e
      cases e
      exact .inr (.inl ⟨((L.code p hp).tab (L.tab p hp)).isCodeTable, rfl, #[], xs, rfl, by rw [Array.empty_append]; exact hx⟩)
    · exact .inl (rest b o hb e)
  · intro b o e
    by_cases hb : b ∈ cs.map (·.2)
    · obtain ⟨p, hp, rfl⟩ := List.mem_map.mp hb
      obtain ⟨xs, hx⟩ := more p hp
      exact ⟨_, hx⟩
    · exact ⟨o, rest b o hb e⟩
theorem LawIn.run {P : Program} {w : World} {k : Nat} {fa : Addr} {fd : FuncData} {x : Str} {sp : Sp} (hr : Room k callerA) (hb : ∀ (s : Shared) (u : Value), BindsTo s fd ⟨[u], []⟩ [(x, u)])
    (F : ∀ base : Heap, L2.Mod K mg base → (∀ p ∈ cs, TabB base mg p.1 p.2) → FnG P w K mg base k fa fd [x] sp) (hsp : ∀ H : Hp, (∀ p ∈ cs, H p.2 = some (.tbl #[])) → SqL K H a (ns.map V.int) → sp [.ref a] H (fun v _ => v = .bl true) E0) :
    codeAny (model P w) callerA (.call (.ref fa) ⟨[.ref a], []⟩) (fun r s' => r = .ok (.ret (.bool true)) ∧ OldK s.heap s'.heap ∧ s'.os = s.os ∧ AllBare s'.gens) s := by
  apply codeAny_mono ((F _ L.mod fun p hp => L.tabB hp).run callerA [] s (lawH K cs a vs ns) ⟨[.ref a], []⟩ [.ref a] [.ref a] _ _ rfl hr L.env (hb s (.ref a)) (.cons rfl .nil) (hsp _ (fun p hp => lawH_tab hp) L.sql))
  intro r s' h
  match r, h with
  | .error _, h => exact (show False from h).elim
  | .ok .next, h => exact (show False from h).elim
  | .ok .brk, h => exact (show False from h).elim
  | .ok .cont, h => exact (show False from h).elim
  | .ok (.ret u), h =>
    obtain ⟨v, H', os, bare, un, ok, rv, q⟩ := h
    obtain rfl : v = .bl true := q
    obtain rfl : u = Value.bool true := rv
    exact ⟨rfl, L.old un ok, os, bare⟩
end
/-- what must be shown of a law's def at the head's heap -/
structure LawOn (l : PySem.W.OpenLaw) (w : World) (K : PySem.W.Frag) (k : Nat) (x : Str) (mg : Str → Option Value) (fa : Addr) (h : Heap) : Prop where
  ex : ∃ (fd : FuncData) (cs : List (Addr × Addr)) (sp : Sp), (∀ p ∈ cs, h.get? p.2 = some { cls := .none, data := .fields #[] }) ∧ (∀ p ∈ cs, K.lookup p.2 = none) ∧ (∀ p ∈ cs, PySem.W.CodeHd h p.1 p.2) ∧ (∀ (s : Shared) (u : Value), BindsTo s fd ⟨[u], []⟩ [(x, u)]) ∧
    (∀ (H : Hp) (a : Addr) (ns : List Int), ns.length ≤ 63 → (∀ p ∈ cs, H p.2 = some (.tbl #[])) → SqL K H a (ns.map V.int) → sp [.ref a] H (fun v _ => v = .bl true) E0) ∧
    ∀ base : Heap, L2.Mod K mg base → (∀ p ∈ cs, TabB base mg p.1 p.2) → FnG l.prog w K mg base k fa fd [x] sp
theorem walk_on {l : PySem.W.OpenLaw} {k : Nat} {q : Program} {loose : List Str} {XP : (Str → Option Value) → Heap → Prop} {YP : World → Heap → Prop} {d : DefRec} {K : Params → PySem.W.Frag} {x : Str}
    (hn : l.most = some 63) (hdf : d.params.defaults = []) (hr : Room k callerA) (hY : ∀ (w : World) (h : Heap), YP w h → (K w.params).In h)
    (F : ∀ (w : World) (mg : Str → Option Value) (fa : Addr) (h : Heap), YP w h → XP mg h → (K w.params).In h → h.Ns mainGlobals mg → (∀ (x : Str) (r : DefRec) (c P : Addr), (recsOf q).find? (fun e => e.name == x) = some r → PySem.W.tabIn (K w.params) x = some (c, P) → PySem.W.CodeHd h c P ∧ h.get? P = some (PySem.W.tabObj #[])) → mg d.name = some (.ref fa) → LawOn l w (K w.params) k x mg fa h) :
    PySem.W.WalkO q loose XP YP l.row.toRowW d [] (fun f vs => PySem.call f vs) := by
  apply Att.attach_callB hn hdf
  intro w s₀ s₁ mg mb fa o pm cd doc a vs ns G Y ho hd hcd hmg hobj hints hlen _ hg
  have KX := hY w _ Y
  obtain ⟨fd, cs, sp, hT, nT, C, hb, hsp, hF⟩ := (F w mg fa _ Y G.X KX G.T.g (fun x r c P hr ht => PySem.W.tab_of G.T KX hr ht) hmg).ex
  have L : LawIn (K w.params) mg mb cs s₁ a vs ns := ⟨KX, G.T.g, G.T.b, G.T.builtins, G.T.nolimit, hg, hT, nT, C, G.T.bmain, hobj, hints, by rw [sizeLine_eq]; omega⟩
  exact L.run hr hb hF fun H hH hS => hsp H a ns hlen hH hS
end BK
set_option Elab.async false
set_option linter.all false
set_option maxRecDepth 100000
set_option maxHeartbeats 4000000
/-! EndK: from what the top leaves to the law's promise. -/
namespace K0
open PySem PySem.Spec PyProof.Rows L2 BK LamX
theorem rel_at : ∀ {zs : List V} {ws : List Value}, Vals zs ws → ∀ i : Nat, RelV (zs.getD i .non) (ws.getD i .none)
  | _, _, .nil, _ => rfl
  | _, _, .cons r _, 0 => r
  | _, _, .cons _ rr, i + 1 => rel_at rr i
/-- how the parameters of a def of the text bind -/
def BindsAll (st : Stmt) (x : Str) (ps : List Str) : Prop := ∀ (kV doc pm : Value) (an : Option Addr) (cdv ct : Value) (us : List Value), us.length = ps.length → bindArgs (PySem.W.fnOf x x (defArgs st) (defBody st) (defScope st) .none kV doc pm an cdv ct) ⟨us, []⟩ = pure (ps.zip us)
section
variable {K : PySem.W.Frag} {h : Heap} {mg : Str → Option Value}
theorem at_of {x : Str} {st : Stmt} {ps : List Str} {f : Addr} {oc kV dc pm cd ct : Value} {od an : Option Addr} {sl : Array (Option Value)} (X : K.In h) (G : h.Ns mainGlobals mg) (a : PySem.W.nsIn K mainGlobals x = some (some (.ref f)))
    (l : K.lookup f = some ⟨oc, od, .func (PySem.W.fnOf x x (defArgs st) (defBody st) (defScope st) .none kV dc pm an cd ct), sl⟩) (c : PySem.W.codeIn K cd x = true) (k : PySem.W.keepIn K (.ref f) = true) (b : BindsAll st x ps) : At K mg x st ps := by
  have F := fun_mk (st := st) l c k
  exact ⟨f, _, F, PySem.W.mg_of X G a, F.binds b⟩
/-- with its code object at c -/
structure AtD (K : PySem.W.Frag) (mg : Str → Option Value) (x : Str) (st : Stmt) (ps : List Str) (c : Addr) : Prop where
  ex : ∃ (f : Addr) (oc : Value) (od : Option Addr) (kV doc pm : Value) (an : Option Addr) (ct : Value) (osl : Array (Option Value)),
    K.lookup f = some ⟨oc, od, .func (PySem.W.fnOf x x (defArgs st) (defBody st) (defScope st) .none kV doc pm an (.ref c) ct), osl⟩ ∧ PySem.W.codeIn K (.ref c) x = true ∧ PySem.W.keepIn K (.ref f) = true ∧ mg x = some (.ref f) ∧
    Binds K (PySem.W.fnOf x x (defArgs st) (defBody st) (defScope st) .none kV doc pm an (.ref c) ct) ps []
theorem atD_of {x : Str} {st : Stmt} {ps : List Str} {f c : Addr} {oc kV dc pm ct : Value} {od an : Option Addr} {sl : Array (Option Value)} (X : K.In h) (G : h.Ns mainGlobals mg) (a : PySem.W.nsIn K mainGlobals x = some (some (.ref f)))
    (l : K.lookup f = some ⟨oc, od, .func (PySem.W.fnOf x x (defArgs st) (defBody st) (defScope st) .none kV dc pm an (.ref c) ct), sl⟩) (cc : PySem.W.codeIn K (.ref c) x = true) (k : PySem.W.keepIn K (.ref f) = true) (b : BindsAll st x ps) : AtD K mg x st ps c := by
  have F := fun_mk (st := st) l cc k
  exact ⟨f, oc, od, kV, dc, pm, an, ct, sl, l, cc, k, PySem.W.mg_of X G a, F.binds b⟩
theorem AtD.on {x : Str} {st : Stmt} {ps : List Str} {c P : Addr} {base : Heap} (a : AtD K mg x st ps c) (t : LamX.TabB base mg c P) : AtC K mg base x st ps P := by
  obtain ⟨f, oc, od, kV, dc, pm, an, ct, sl, l, cc, k, m, b⟩ := a.ex
  exact ⟨f, oc, od, kV, dc, pm, an, c, ct, sl, l, cc, k, m, b, t⟩
/-- an error class with one field: what the written part says of it -/
structure ErrF (K : PySem.W.Frag) (mg : Str → Option Value) (x f : Str) (st : Stmt) (C : Addr) : Prop where
  oex : OexC K C
  m : mg x = some (.ref C)
  no : PySem.W.findIn K (.ref C) f = some none
  ini : ∃ (fI : Addr) (fd : FuncData), PySem.W.findIn K (.ref C) "__init__" = some (some (.ref fI)) ∧ PySem.W.typeIn K (.ref fI) = some (.type "function") ∧ Fun K "__init__" (x ++ ".__init__") st fI fd ∧ Binds K fd ["self", f] []
theorem errF_of {x f : Str} {st : Stmt} {C fI : Addr} {oc kV dc pm cd ct : Value} {od an : Option Addr} {sl : Array (Option Value)} {nm q N bs bm sn sub ab col dd k0 k1 k2 k3 k5} (X : K.In h) (G : h.Ns mainGlobals mg) (a : PySem.W.nsIn K mainGlobals x = some (some (.ref C)))
    (xL : K.lookup C = some (excClassObj nm q C N bs bm true sn sub ab col dd k0 k1 k2 k3 k5 "ValueError.__new__")) (vb : PySem.HandSPX.refsVE bm = true) (sa : PySem.W.findIn K (.ref C) "__setattr__" = some (some (.builtin "object.__setattr__"))) (ex : PySem.W.subIn K (.ref C) (.type "BaseException") = some true)
    (ty : PySem.W.typeIn K (.ref C) = some (.type "type")) (kC : PySem.W.keepIn K (.ref C) = true) (no : PySem.W.findIn K (.ref C) f = some none) (a1 : PySem.W.findIn K (.ref C) "__init__" = some (some (.ref fI))) (t1 : PySem.W.typeIn K (.ref fI) = some (.type "function"))
    (l : K.lookup fI = some ⟨oc, od, .func (PySem.W.fnOf "__init__" (x ++ ".__init__") (defArgs st) (defBody st) (defScope st) .none kV dc pm an cd ct), sl⟩) (c : PySem.W.codeIn K cd (x ++ ".__init__") = true) (k : PySem.W.keepIn K (.ref fI) = true)
    (b : ∀ (kV doc pm : Value) (an : Option Addr) (cdv ct : Value) (us : List Value), us.length = 2 → bindArgs (PySem.W.fnOf "__init__" (x ++ ".__init__") (defArgs st) (defBody st) (defScope st) .none kV doc pm an cdv ct) ⟨us, []⟩ = pure ((["self", f] : List Str).zip us)) : ErrF K mg x f st C := by
  have F := fun_mk (st := st) l c k
  exact ⟨⟨⟨_, _, _, _, _, _, _, _, _, _, _, _, _, _, _, xL, vb⟩, sa, ex, ty, kC⟩, PySem.W.mg_of X G a, no, fI, _, a1, t1, F, F.binds b⟩
theorem ErrF.val {P : Program} {w : World} {base : Heap} {x f : Str} {st : Stmt} {C : Addr} {p1 p2 p3 p4 : Pos} (e : ErrF K mg x f st C) (hb : defBody st = [.Assign [.Attribute (.Name "self" p1) f p2] (.Name f p3) p4]) (sc : FnScope ["self", f] ["self", f] (defScope st))
    (hv0 : Vis (defScope st) "self") (hv1 : Vis (defScope st) f) (hd : (f == ("__debug__" : Str)) = false) (hcd : (f == ("__classdict__" : Str)) = false) (hsw : ∀ X : Cx, swapsWith (.Name f p3) (some (.Attribute (.Name "self" p1) f p2)) p4.line X.env = pure false) : ErrV P w K mg base x f C := by
  obtain ⟨fI, fd, a1, t1, F, b⟩ := e.ini
  exact ⟨fI, fd, e.oex, a1, t1, ok_err F e.oex e.no hb sc hv0 hv1 hd hcd hsw, b, e.m⟩
theorem loose_int {q : Program} {x : Str} {n : Int} (Y : PySem.W.XL q [(x, PySem.W.WData.int n)] mg h) : ∃ t, mg x = some (.int n t) := by
  obtain ⟨v, hv, r⟩ := Y.2.val _ (List.mem_cons_self ..)
  cases r with
  | int n t => exact ⟨t, hv⟩
end
/-- the defs and the errors, as the top leaves them -/
structure Top0 (K : PySem.W.Frag) (mg : Str → Option Value) (D S M N HE c1 c2 c3 c4 cG : Addr) : Prop where
  integer : At K mg "is_integer" sInteger ["value"]
  within : At K mg "is_within" sWithin ["value", "low", "high"]
  set : At K mg "is_set" sSet ["value", "most"]
  dayAt : At K mg "day_at" sDayAt ["days", "hour"]
  hoursAt : At K mg "hours_at" sHoursAt ["days", "day"]
  starts : At K mg "starts_in" sStarts ["days", "length"]
  needDays : At K mg "need_days" sNeedDays ["days"]
  needSet : At K mg "need_set" sNeedSet ["value", "most"]
  hoursIn : At K mg "hours_in" sHoursIn ["days"]
  dayOf : At K mg "day_of" sDayOf ["days", "hour"]
  dayHours : At K mg "day_hours" sDayHours ["days", "day"]
  held : At K mg "held_hours" sHeld ["days", "length", "hour"]
  mixed : At K mg "_law_mixed" sMixed ["cell", "k"]
  begin : At K mg "_law_begin" sBegin ["script"]
  draw : At K mg "_law_draw" sDraw ["state", "limit"]
  of : At K mg "_law_of" sOf ["state", "some"]
  like : At K mg "_law_like" sLike ["got", "due"]
  heard : At K mg "_law_heard" sHeard ["call"]
  listed : At K mg "_law_listed" sListed ["days_so"]
  law : At K mg "law" sLaw ["script"]
  isDays : AtD K mg "is_days" sIsDays ["value"] cG
  hoursRight : AtD K mg "_law_hours_right" sHoursRight ["days_so"] c1
  heldRight : AtD K mg "_law_held_right" sHeldRight ["days_so", "long_so", "first"] c2
  setsRight : AtD K mg "_law_sets_right" sSetsRight ["state"] c3
  oddDays : AtD K mg "_law_odd_days" sOddDays [] c4
  eD : ErrF K mg "BadDays" "value" sIDays D
  eS : ErrF K mg "BadSet" "value" sISet S
  eM : ErrF K mg "BadParameter" "value" sIPar M
  bl : Bl mg
  et : ErrT K mg D S M N HE
  nQ : PySem.W.excIn K N [.type "ValueError", .type "Exception", .type "BaseException", .type "object"] "ValueError.__new__" = true
  kN : PySem.W.keepIn K (.ref N) = true
  sN : PySem.W.subIn K (.ref N) (.type "BaseException") = some true
  tN : PySem.W.typeIn K (.ref N) = some (.type "type")
  m7 : ∃ t, mg "MOST_DAYS" = some (.int 7 t)
  m12 : ∃ t, mg "MOST_HOURS" = some (.int 12 t)
  m4 : ∃ t, mg "MOST_LENGTH" = some (.int 4 t)
  m6 : ∃ t, mg "GREATEST_MOST" = some (.int 1000000 t)
section
variable {K : PySem.W.Frag} {h : Heap} {mg : Str → Option Value}
theorem k00_on {l : PySem.W.OpenLaw} {w : World} {fa D S M N HE c1 c2 c3 c4 cG P1 P2 P3 P4 PG : Addr} (Z : Top0 K mg D S M N HE c1 c2 c3 c4 cG) (hmg : mg "law" = some (.ref fa)) (nd : [P1, P2, P3, P4, PG].Nodup)
    (hT : ∀ p ∈ [(c1, P1), (c2, P2), (c3, P3), (c4, P4), (cG, PG)], h.get? p.2 = some { cls := .none, data := .fields #[] }) (nT : ∀ p ∈ [(c1, P1), (c2, P2), (c3, P3), (c4, P4), (cG, PG)], K.lookup p.2 = none)
    (C : ∀ p ∈ [(c1, P1), (c2, P2), (c3, P3), (c4, P4), (cG, PG)], PySem.W.CodeHd h p.1 p.2) : LawOn l w K 12 "script" mg fa h := by
  let T : List (Addr × Str) := [(P1, qHR), (P2, qHe), (P3, qSe), (P4, qOd), (PG, qG)]
  obtain ⟨f, fd, Fn, m, b⟩ := Z.law.ex
  have ef : f = fa := by
    rw [m] at hmg
    cases hmg
    rfl
  subst ef
  refine ⟨fd, [(c1, P1), (c2, P2), (c3, P3), (c4, P4), (cG, PG)], spLaw K T PG, hT, nT, C, fun s u => ?_, fun H a ns ln tb sq => ?_, fun base MD TB => ?_⟩
  · obtain ⟨oc, od, kV, doc, pm, an, cdv, ct, osl, rfl, _, _⟩ := Fn.ex
    exact BindsTo.of_eq rfl
  · have tt : ∀ p ∈ T, TabS H p.1 p.2 := fun p hp => by
      refine TabS.nil ?_
      simp only [T, List.mem_cons, List.not_mem_nil, or_false] at hp
      rcases hp with rfl | rfl | rfl | rfl | rfl
      · exact tb (c1, P1) (by simp)
      · exact tb (c2, P2) (by simp)
      · exact tb (c3, P3) (by simp)
      · exact tb (c4, P4) (by simp)
      · exact tb (cG, PG) (by simp)
    exact ⟨a, ns, rfl, sq, ln, Tb.of (by simp [T]) tt, fun _ => rfl⟩
  · simp only [List.nodup_cons, List.mem_cons, List.not_mem_nil, or_false, not_or, not_false_eq_true, and_true, List.nodup_nil] at nd
    obtain ⟨⟨n12, n13, n14, n1G⟩, ⟨n23, n24, n2G⟩, ⟨n34, n3G⟩, n4G⟩ := nd
    have mG : (PG, qG) ∈ T := by simp [T]
    have u1 : ∀ p ∈ T, p.1 = P1 → p.2 = qHR := fun p hp e => by
      simp only [T, List.mem_cons, List.not_mem_nil, or_false] at hp
      rcases hp with rfl | rfl | rfl | rfl | rfl
      · rfl
      · exact absurd e.symm n12
      · exact absurd e.symm n13
      · exact absurd e.symm n14
      · exact absurd e.symm n1G
    have u2 : ∀ p ∈ T, p.1 = P2 → p.2 = qHe := fun p hp e => by
      simp only [T, List.mem_cons, List.not_mem_nil, or_false] at hp
      rcases hp with rfl | rfl | rfl | rfl | rfl
      · exact absurd e n12
      · rfl
      · exact absurd e.symm n23
      · exact absurd e.symm n24
      · exact absurd e.symm n2G
    have u3 : ∀ p ∈ T, p.1 = P3 → p.2 = qSe := fun p hp e => by
      simp only [T, List.mem_cons, List.not_mem_nil, or_false] at hp
      rcases hp with rfl | rfl | rfl | rfl | rfl
      · exact absurd e n13
      · exact absurd e n23
      · rfl
      · exact absurd e.symm n34
      · exact absurd e.symm n3G
    have u4 : ∀ p ∈ T, p.1 = P4 → p.2 = qOd := fun p hp e => by
      simp only [T, List.mem_cons, List.not_mem_nil, or_false] at hp
      rcases hp with rfl | rfl | rfl | rfl | rfl
      · exact absurd e n14
      · exact absurd e n24
      · exact absurd e n34
      · rfl
      · exact absurd e.symm n4G
    have uG : ∀ p ∈ T, p.1 = PG → p.2 = qG := fun p hp e => by
      simp only [T, List.mem_cons, List.not_mem_nil, or_false] at hp
      rcases hp with rfl | rfl | rfl | rfl | rfl
      · exact absurd e n1G
      · exact absurd e n2G
      · exact absurd e n3G
      · exact absurd e n4G
      · rfl
    have vD : ErrV l.prog w K mg base "BadDays" "value" D := Z.eD.val rfl ⟨rfl, rfl, rfl, by decide +kernel, rfl, by decide +kernel, by decide +kernel⟩ (.inl (by rfl)) (.inl (by rfl)) (by decide) (by decide) (fun _ => by rfl)
    have vS : ErrV l.prog w K mg base "BadSet" "value" S := Z.eS.val rfl ⟨rfl, rfl, rfl, by decide +kernel, rfl, by decide +kernel, by decide +kernel⟩ (.inl (by rfl)) (.inl (by rfl)) (by decide) (by decide) (fun _ => by rfl)
    have vM : ErrV l.prog w K mg base "BadParameter" "value" M := Z.eM.val rfl ⟨rfl, rfl, rfl, by decide +kernel, rfl, by decide +kernel, by decide +kernel⟩ (.inl (by rfl)) (.inl (by rfl)) (by decide) (by decide) (fun _ => by rfl)
    have Pz : Pg l.prog w K mg base D S M N := ⟨Z.bl, vD, vS, vM, Z.nQ, Z.et.gN, Z.kN, Z.sN, Z.tN, Z.m4, Z.m6⟩
    have W := def_within (def_integer (P := l.prog) (w := w) (base := base) Z.bl Z.integer) Z.within
    have St := def_set Z.bl W Z.set
    have Id := def_isDays (P := l.prog) (w := w) (T := T) MD Z.bl Z.m7 Z.m12 W (Z.isDays.on (TB (cG, PG) (by simp))) mG uG
    have Nd := def_needDays Pz Id Z.needDays
    have Hi := def_hoursIn Pz Nd Z.hoursIn
    have Da := def_dayAt (P := l.prog) (w := w) (base := base) Z.bl Z.dayAt
    have Ha := def_hoursAt (P := l.prog) (w := w) (base := base) Z.bl Z.hoursAt
    have Ss := def_starts (P := l.prog) (w := w) (base := base) Z.bl Z.starts
    have Do := def_dayOf Pz Hi W Da Z.dayOf
    have Dh := def_dayHours Pz Nd W Ha Z.dayHours
    have He := def_held Pz Nd Hi W Ss Z.held
    have Ns := def_needSet (T := T) (PG := PG) Pz W St Z.needSet
    have Mx := def_mixed (P := l.prog) (w := w) (base := base) Z.bl Z.mixed
    have Dr := def_draw Z.bl Mx Z.draw
    have L : Lw l.prog w K mg base T PG D S M N HE := ⟨Z.bl, Z.et, Z.heard, def_like Z.bl Z.like, def_listed Z.bl Z.listed, Nd, Hi, Do, Dh, He, Ns⟩
    have Pt0 : Pt l.prog w K mg base T PG D S M N :=
      { begin := def_begin Z.bl Z.begin
        draw := Dr
        of := def_of Z.bl Dr Z.of
        hours := def_hoursRight L (Z.hoursRight.on (TB (c1, P1) (by simp))) (by simp [T]) u1 mG
        held := def_heldRight L (Z.heldRight.on (TB (c2, P2) (by simp))) (by simp [T]) u2 mG
        sets := def_setsRight L Dr (Z.setsRight.on (TB (c3, P3) (by simp))) (by simp [T]) u3 mG
        odd := def_oddDays L (Z.oddDays.on (TB (c4, P4) (by simp))) (by simp [T]) u4 mG
        kHours := .of Hi Z.hoursIn (fun r => r) fun _ _ _ _ _ _ ws hl => match ws, hl with | [_], _ => rfl
        kDayOf := .of Do Z.dayOf (fun r => .cons (rel_at r 1) (.cons (rel_at r 0) .nil)) fun _ _ _ _ _ _ ws hl => match ws, hl with | [_, _], _ => rfl
        kDayHours := .of Dh Z.dayHours (fun r => .cons (rel_at r 1) (.cons (rel_at r 0) .nil)) fun _ _ _ _ _ _ ws hl => match ws, hl with | [_, _], _ => rfl
        kHeld := .of He Z.held (fun r => .cons (rel_at r 1) (.cons (rel_at r 2) (.cons (rel_at r 0) .nil))) fun _ _ _ _ _ _ ws hl => match ws, hl with | [_, _, _], _ => rfl }
    have La := def_law L Pt0 Z.law
    obtain ⟨f', fd', F', m', _, _, oc', od', osl', lk'⟩ := La.ex
    rw [m] at m'
    cases m'
    obtain ⟨oc, od, kV, doc, pm, an, cdv, ct, osl, rfl, lk, _⟩ := Fn.ex
    rw [lk] at lk'
    cases lk'
    exact F'
end
end K0
set_option Elab.async false
set_option linter.all false
set_option maxRecDepth 100000
open PySem PySem.W PyProof.Rows in
set_option maxRecDepth 100000 in
set_option maxHeartbeats 0 in
theorem PySem.Challenge.cw_besthours_k00_days_hours_and_sets_holds : PySem.Challenge.rw_besthours_k00_days_hours_and_sets.Holds := by
  w_on; o_law; k_head; (case hw => w_witness2)
  k_fill
  refine BK.walk_on (l := PySem.Challenge.rw_besthours_k00_days_hours_and_sets) (k := 12) (x := "script") rfl rfl ⟨rfl, by decide, by decide⟩ (fun w h Y => PySem.W.km_in_of Y) ?F
  case F =>
    intro w mg fa h Y XP KX G tabs hmg
    have Tt := PySem.W.km_tabs_of Y
    refine' K0.k00_on (P1 := 234) (P2 := 239) (P3 := 244) (P4 := 249) (PG := 119) ?Z hmg (by decide) ?hT ?nT ?C
    case Z =>
      refine' { integer := ?integer
                within := ?within
                set := ?set
                dayAt := ?dayAt
                hoursAt := ?hoursAt
                starts := ?starts
                needDays := ?needDays
                needSet := ?needSet
                hoursIn := ?hoursIn
                dayOf := ?dayOf
                dayHours := ?dayHours
                held := ?held
                mixed := ?mixed
                begin := ?begin
                draw := ?draw
                of := ?of
                like := ?like
                heard := ?heard
                listed := ?listed
                law := ?law
                isDays := ?isDays
                hoursRight := ?hoursRight
                heldRight := ?heldRight
                setsRight := ?setsRight
                oddDays := ?oddDays
                eD := ?eD
                eS := ?eS
                eM := ?eM
                bl := ?bl
                et := ?et
                nQ := ?nQ
                kN := ?kN
                sN := ?sN
                tN := ?tN
                m7 := ?m7
                m12 := ?m12
                m4 := ?m4
                m6 := ?m6 }
      case integer =>
        refine' K0.at_of KX G ?a ?l ?c ?k ?b
        (case a => k_is); (case l => k_is); (case c => k_is); (case k => k_is)
        (case b => exact fun _ _ _ _ _ _ us hl => match us, hl with | [_], _ => rfl)
      case within =>
        refine' K0.at_of KX G ?a ?l ?c ?k ?b
        (case a => k_is); (case l => k_is); (case c => k_is); (case k => k_is)
        (case b => exact fun _ _ _ _ _ _ us hl => match us, hl with | [_, _, _], _ => rfl)
      case set =>
        refine' K0.at_of KX G ?a ?l ?c ?k ?b
        (case a => k_is); (case l => k_is); (case c => k_is); (case k => k_is)
        (case b => exact fun _ _ _ _ _ _ us hl => match us, hl with | [_, _], _ => rfl)
      case dayAt =>
        refine' K0.at_of KX G ?a ?l ?c ?k ?b
        (case a => k_is); (case l => k_is); (case c => k_is); (case k => k_is)
        (case b => exact fun _ _ _ _ _ _ us hl => match us, hl with | [_, _], _ => rfl)
      case hoursAt =>
        refine' K0.at_of KX G ?a ?l ?c ?k ?b
        (case a => k_is); (case l => k_is); (case c => k_is); (case k => k_is)
        (case b => exact fun _ _ _ _ _ _ us hl => match us, hl with | [_, _], _ => rfl)
      case starts =>
        refine' K0.at_of KX G ?a ?l ?c ?k ?b
        (case a => k_is); (case l => k_is); (case c => k_is); (case k => k_is)
        (case b => exact fun _ _ _ _ _ _ us hl => match us, hl with | [_, _], _ => rfl)
      case needDays =>
        refine' K0.at_of KX G ?a ?l ?c ?k ?b
        (case a => k_is); (case l => k_is); (case c => k_is); (case k => k_is)
        (case b => exact fun _ _ _ _ _ _ us hl => match us, hl with | [_], _ => rfl)
      case needSet =>
        refine' K0.at_of KX G ?a ?l ?c ?k ?b
        (case a => k_is); (case l => k_is); (case c => k_is); (case k => k_is)
        (case b => exact fun _ _ _ _ _ _ us hl => match us, hl with | [_, _], _ => rfl)
      case hoursIn =>
        refine' K0.at_of KX G ?a ?l ?c ?k ?b
        (case a => k_is); (case l => k_is); (case c => k_is); (case k => k_is)
        (case b => exact fun _ _ _ _ _ _ us hl => match us, hl with | [_], _ => rfl)
      case dayOf =>
        refine' K0.at_of KX G ?a ?l ?c ?k ?b
        (case a => k_is); (case l => k_is); (case c => k_is); (case k => k_is)
        (case b => exact fun _ _ _ _ _ _ us hl => match us, hl with | [_, _], _ => rfl)
      case dayHours =>
        refine' K0.at_of KX G ?a ?l ?c ?k ?b
        (case a => k_is); (case l => k_is); (case c => k_is); (case k => k_is)
        (case b => exact fun _ _ _ _ _ _ us hl => match us, hl with | [_, _], _ => rfl)
      case held =>
        refine' K0.at_of KX G ?a ?l ?c ?k ?b
        (case a => k_is); (case l => k_is); (case c => k_is); (case k => k_is)
        (case b => exact fun _ _ _ _ _ _ us hl => match us, hl with | [_, _, _], _ => rfl)
      case mixed =>
        refine' K0.at_of KX G ?a ?l ?c ?k ?b
        (case a => k_is); (case l => k_is); (case c => k_is); (case k => k_is)
        (case b => exact fun _ _ _ _ _ _ us hl => match us, hl with | [_, _], _ => rfl)
      case begin =>
        refine' K0.at_of KX G ?a ?l ?c ?k ?b
        (case a => k_is); (case l => k_is); (case c => k_is); (case k => k_is)
        (case b => exact fun _ _ _ _ _ _ us hl => match us, hl with | [_], _ => rfl)
      case draw =>
        refine' K0.at_of KX G ?a ?l ?c ?k ?b
        (case a => k_is); (case l => k_is); (case c => k_is); (case k => k_is)
        (case b => exact fun _ _ _ _ _ _ us hl => match us, hl with | [_, _], _ => rfl)
      case of =>
        refine' K0.at_of KX G ?a ?l ?c ?k ?b
        (case a => k_is); (case l => k_is); (case c => k_is); (case k => k_is)
        (case b => exact fun _ _ _ _ _ _ us hl => match us, hl with | [_, _], _ => rfl)
      case like =>
        refine' K0.at_of KX G ?a ?l ?c ?k ?b
        (case a => k_is); (case l => k_is); (case c => k_is); (case k => k_is)
        (case b => exact fun _ _ _ _ _ _ us hl => match us, hl with | [_, _], _ => rfl)
      case heard =>
        refine' K0.at_of KX G ?a ?l ?c ?k ?b
        (case a => k_is); (case l => k_is); (case c => k_is); (case k => k_is)
        (case b => exact fun _ _ _ _ _ _ us hl => match us, hl with | [_], _ => rfl)
      case listed =>
        refine' K0.at_of KX G ?a ?l ?c ?k ?b
        (case a => k_is); (case l => k_is); (case c => k_is); (case k => k_is)
        (case b => exact fun _ _ _ _ _ _ us hl => match us, hl with | [_], _ => rfl)
      case law =>
        refine' K0.at_of KX G ?a ?l ?c ?k ?b
        (case a => k_is); (case l => k_is); (case c => k_is); (case k => k_is)
        (case b => exact fun _ _ _ _ _ _ us hl => match us, hl with | [_], _ => rfl)
      case isDays =>
        refine' K0.atD_of KX G ?a ?l ?c ?k ?b
        (case a => k_is); (case l => k_is); (case c => k_is); (case k => k_is)
        (case b => exact fun _ _ _ _ _ _ us hl => match us, hl with | [_], _ => rfl)
      case hoursRight =>
        refine' K0.atD_of KX G ?a ?l ?c ?k ?b
        (case a => k_is); (case l => k_is); (case c => k_is); (case k => k_is)
        (case b => exact fun _ _ _ _ _ _ us hl => match us, hl with | [_], _ => rfl)
      case heldRight =>
        refine' K0.atD_of KX G ?a ?l ?c ?k ?b
        (case a => k_is); (case l => k_is); (case c => k_is); (case k => k_is)
        (case b => exact fun _ _ _ _ _ _ us hl => match us, hl with | [_, _, _], _ => rfl)
      case setsRight =>
        refine' K0.atD_of KX G ?a ?l ?c ?k ?b
        (case a => k_is); (case l => k_is); (case c => k_is); (case k => k_is)
        (case b => exact fun _ _ _ _ _ _ us hl => match us, hl with | [_], _ => rfl)
      case oddDays =>
        refine' K0.atD_of KX G ?a ?l ?c ?k ?b
        (case a => k_is); (case l => k_is); (case c => k_is); (case k => k_is)
        (case b => exact fun _ _ _ _ _ _ us hl => match us, hl with | [], _ => rfl)
      case eD =>
        refine' K0.errF_of KX G ?a ?xL ?vb ?sa ?ex ?ty ?kC ?no ?a1 ?t1 ?l ?c ?k ?b
        (case a => k_is); (case xL => k_is); (case vb => decide +kernel); (case sa => k_is); (case ex => k_is); (case ty => k_is); (case kC => k_is); (case no => k_is)
        (case a1 => k_is); (case t1 => k_is); (case l => k_is); (case c => k_is); (case k => k_is)
        (case b => exact fun _ _ _ _ _ _ us hl => match us, hl with | [_, _], _ => rfl)
      case eS =>
        refine' K0.errF_of KX G ?a ?xL ?vb ?sa ?ex ?ty ?kC ?no ?a1 ?t1 ?l ?c ?k ?b
        (case a => k_is); (case xL => k_is); (case vb => decide +kernel); (case sa => k_is); (case ex => k_is); (case ty => k_is); (case kC => k_is); (case no => k_is)
        (case a1 => k_is); (case t1 => k_is); (case l => k_is); (case c => k_is); (case k => k_is)
        (case b => exact fun _ _ _ _ _ _ us hl => match us, hl with | [_, _], _ => rfl)
      case eM =>
        refine' K0.errF_of KX G ?a ?xL ?vb ?sa ?ex ?ty ?kC ?no ?a1 ?t1 ?l ?c ?k ?b
        (case a => k_is); (case xL => k_is); (case vb => decide +kernel); (case sa => k_is); (case ex => k_is); (case ty => k_is); (case kC => k_is); (case no => k_is)
        (case a1 => k_is); (case t1 => k_is); (case l => k_is); (case c => k_is); (case k => k_is)
        (case b => exact fun _ _ _ _ _ _ us hl => match us, hl with | [_, _], _ => rfl)
      case bl =>
        refine' ⟨PySem.W.mg_none_of KX G ?_, PySem.W.mg_none_of KX G ?_, PySem.W.mg_none_of KX G ?_, PySem.W.mg_none_of KX G ?_, PySem.W.mg_none_of KX G ?_, PySem.W.mg_none_of KX G ?_, PySem.W.mg_none_of KX G ?_, PySem.W.mg_none_of KX G ?_, PySem.W.mg_none_of KX G ?_, PySem.W.mg_none_of KX G ?_, PySem.W.mg_none_of KX G ?_, PySem.W.mg_none_of KX G ?_, PySem.W.mg_none_of KX G ?_⟩ <;> k_is
      case et =>
        refine' ⟨PySem.W.mg_of KX G ?_, PySem.W.mg_of KX G ?_, PySem.W.mg_of KX G ?_, PySem.W.mg_of KX G ?_, PySem.W.mg_of KX G ?_, PySem.W.mg_none_of KX G ?_, PySem.W.mg_none_of KX G ?_, ?_, ?_, ?_, ?_, ?_, ?_, ?_, ?_, ?_, ?_, ⟨?_, ?_, ?_, ?_, ?_, ?_, ?_, ?_⟩, ⟨?_, ?_, ?_, ?_, ?_, ?_, ?_, ?_⟩, ⟨?_, ?_, ?_, ?_, ?_, ?_, ?_, ?_⟩, ⟨?_, ?_, ?_, ?_, ?_, ?_, ?_, ?_⟩, ⟨?_, ?_, ?_, ?_⟩, ⟨?_, ?_, ?_, ?_⟩, ⟨?_, ?_, ?_, ?_⟩, ?_, ?_, ?_, ?_, ?_, ?_, ?_, ?_⟩
        all_goals (try k_is)
        all_goals kernel_rfl
      case nQ => first | k_is | kernel_rfl
      case kN => first | k_is | kernel_rfl
      case sN => first | k_is | kernel_rfl
      case tN => first | k_is | kernel_rfl
      case m7 => exact ⟨_, PySem.W.mg_of KX G (by k_is)⟩
      case m12 => exact ⟨_, PySem.W.mg_of KX G (by k_is)⟩
      case m4 => exact ⟨_, PySem.W.mg_of KX G (by k_is)⟩
      case m6 => exact K0.loose_int XP
    case hT =>
      intro p hp
      simp only [List.mem_cons, List.not_mem_nil, or_false] at hp
      rcases hp with rfl | rfl | rfl | rfl | rfl
      · exact Tt 234 (by simp)
      · exact Tt 239 (by simp)
      · exact Tt 244 (by simp)
      · exact Tt 249 (by simp)
      · exact (tabs "is_days" _ 123 119 rfl (by kernel_rfl)).2
    case nT =>
      intro p hp
      simp only [List.mem_cons, List.not_mem_nil, or_false] at hp
      rcases hp with rfl | rfl | rfl | rfl | rfl <;> kernel_rfl
    case C =>
      intro p hp
      simp only [List.mem_cons, List.not_mem_nil, or_false] at hp
      rcases hp with rfl | rfl | rfl | rfl | rfl <;> exact PySem.W.codeHd_of_K KX (by kernel_rfl)
