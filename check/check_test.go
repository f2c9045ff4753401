package check_test

import (
	"math"
	"slices"
	"strings"
	"testing"

	"hedgerow/api"
	"hedgerow/check"
	"hedgerow/parse"
)

// query is a text's.
func query(s string) api.Query {
	q, err := parse.Text(s)
	if err != api.OK {
		panic(s)
	}
	return q
}

// tells holds what Query tells of a text's query, and that nothing is told of it if it isn't sound.
func tells(t *testing.T, s string, want api.Errno) {
	t.Helper()
	q := query(s)
	if err := check.Query(q); err != want {
		t.Errorf("Query(%s) is %d, not %d", s, err, want)
	}
	if l := check.Vars(q); want != api.OK && len(l) > 0 {
		t.Errorf("Vars(%s) are %+v", s, l)
	}
	if l := check.New(q, 0); want != api.OK && len(l) > 0 {
		t.Errorf("New(%s, 0) are %q", s, l)
	}
	if reads := strings.Contains(s, "RETURN"); check.Reads(q) != reads {
		t.Errorf("Reads(%s) is %v", s, !reads)
	}
	asked(t, q)
}

func TestSoundP21_1(t *testing.T) {
	for _, s := range []string{
		"RETURN 1",
		"RETURN COUNT(*)",
		"RETURN @n",
		"MATCH () RETURN 1",
		"MATCH (n) RETURN n",
		"MATCH (n) RETURN DISTINCT n, 1 ORDER BY 2 DESC, 1 SKIP 1 LIMIT 1",
		"MATCH (n) RETURN 1, COUNT(n), SUM(n.a), MIN(MANY(n.a)), MAX(n IS NULL)",
		"MATCH ()-[r]->() RETURN r",
		"MATCH (n)-[r]->(m) WHERE n.a = m.a AND r.b IS NOT NULL RETURN n, r, m",
		"MATCH (n)<-[r]-(m) WHERE MANY(r.b) > 1 RETURN NOT n.a = m.a",
		"MATCH (n)-[:T*1..3]->(m) RETURN n, m",
		"MATCH (n@n:n)-[r:r]->(@k:P) RETURN n.n, r.r, @m, 'm'",
		// Bound again, as what it was.
		"MATCH (n)-[]->(n) RETURN n",
		"MATCH (n) MATCH (n) MATCH (n)-[]->(m) RETURN n, m",
		"MATCH ()-[r]->()-[r]->() RETURN r",
		"MATCH ()-[r]->() MATCH ()<-[r]-() RETURN r",
		"OPTIONAL MATCH (n) MATCH (n) RETURN n",
		// From its own Where on.
		"MATCH (n) WHERE n.a = 1 RETURN 1",
		"MATCH (n) MATCH (m) WHERE n.a = m.a MATCH (o) WHERE n.a = m.a AND m.a = o.a RETURN n, m, o",
		"OPTIONAL MATCH (n)-[r]->() WHERE r.a = n.a RETURN n",
		"MATCH () WHERE TRUE RETURN 1",
		// Mutations.
		"CREATE @k:P:Q",
		"CREATE @k-:T->@k",
		"MATCH (n) CREATE n-:T->n",
		"MATCH (n) CREATE n-:T->@k",
		"MATCH (n) CREATE @k-:T->n",
		"MATCH (n) MATCH (m) CREATE n-:T->m",
		"MATCH (n) SET n.a = 1",
		"MATCH (n) SET n.a = n.a + 1",
		"MATCH (n)-[r]->(m) SET r.a = m.a SET m.a = r.a",
		"MATCH (n) SET n:P REMOVE n:P REMOVE n.a DELETE n",
		"MATCH ()-[r]->() REMOVE r.a DELETE r",
		"MATCH ()-[r]->() DELETE r DELETE r",
	} {
		tells(t, s, api.OK)
	}
}

func TestFaultsP21_1(t *testing.T) {
	for s, want := range map[string]api.Errno{
		"RETURN n":                          api.ErrName,
		"RETURN n.a":                        api.ErrName,
		"RETURN MANY(n.a)":                  api.ErrName,
		"RETURN 1, COUNT(*), SUM(n)":        api.ErrName,
		"MATCH (n) RETURN m":                api.ErrName,
		"MATCH (n) RETURN n, m":             api.ErrName,
		"MATCH (n) RETURN n + m":            api.ErrName,
		"MATCH (n) RETURN m + n":            api.ErrName,
		"MATCH (n) RETURN NOT NOT m":        api.ErrName,
		"MATCH (n) RETURN m IS NULL":        api.ErrName,
		"MATCH (n) RETURN m IS NOT NULL":    api.ErrName,
		"MATCH (n) RETURN n OR n AND m = n": api.ErrName,
		// No label, type, key or property is a variable; another letter makes another one.
		"MATCH (n@k:P)-[:T]->() RETURN k":     api.ErrName,
		"MATCH (n@k:P)-[:T]->() RETURN P":     api.ErrName,
		"MATCH (n@k:P)-[:T]->() RETURN T":     api.ErrName,
		"MATCH (n) WHERE n.a = 1 RETURN a":    api.ErrName,
		"MATCH (n) RETURN N":                  api.ErrName,
		"MATCH (nn) RETURN n":                 api.ErrName,
		"MATCH (n@k) CREATE k-:T->n":          api.ErrName,
		"CREATE @k CREATE k-:T->@k":           api.ErrName,
		"MATCH (n) WHERE m = 1 RETURN n":      api.ErrName,
		"MATCH () WHERE n = 1 RETURN 1":       api.ErrName,
		"OPTIONAL MATCH (n) WHERE m RETURN n": api.ErrName,
		// What is bound later isn't there.
		"MATCH (n) WHERE m.a = 1 MATCH (m) RETURN n":            api.ErrName,
		"MATCH (n) WHERE r.a = 1 MATCH (n)-[r]->() RETURN n":    api.ErrName,
		"MATCH () WHERE n MATCH (n) WHERE n RETURN n":           api.ErrName,
		"OPTIONAL MATCH () WHERE n OPTIONAL MATCH (n) RETURN n": api.ErrName,
		// Bound otherwise.
		"MATCH (n)-[n]->() RETURN 1":                   api.ErrType,
		"MATCH ()-[n]->(n) RETURN 1":                   api.ErrType,
		"MATCH (n)<-[n]-() RETURN 1":                   api.ErrType,
		"MATCH (n)-[]->()-[]->()-[n]->() RETURN 1":     api.ErrType,
		"MATCH ()-[r]->()-[]->(r) RETURN 1":            api.ErrType,
		"MATCH (n) MATCH ()-[n]->() RETURN 1":          api.ErrType,
		"MATCH ()-[r]->() MATCH (r) RETURN 1":          api.ErrType,
		"MATCH ()-[r]->() MATCH () MATCH (r) DELETE r": api.ErrType,
		"MATCH (n) OPTIONAL MATCH ()-[n]->() RETURN 1": api.ErrType,
		// Mutations.
		"DELETE n":                              api.ErrName,
		"SET n.a = 1":                           api.ErrName,
		"SET n:P":                               api.ErrName,
		"REMOVE n.a":                            api.ErrName,
		"REMOVE n:P":                            api.ErrName,
		"CREATE n-:T->@k":                       api.ErrName,
		"CREATE @k-:T->n":                       api.ErrName,
		"MATCH (n) CREATE n-:T->m":              api.ErrName,
		"MATCH (n) CREATE m-:T->n":              api.ErrName,
		"MATCH (n) SET n.a = m":                 api.ErrName,
		"MATCH (n) SET m.a = n":                 api.ErrName,
		"MATCH (n) SET n.a = 1 + n.a * m.a":     api.ErrName,
		"MATCH ()-[r]->() SET r:P":              api.ErrType,
		"MATCH ()-[r]->() REMOVE r:P":           api.ErrType,
		"MATCH ()-[r]->() CREATE r-:T->@k":      api.ErrType,
		"MATCH ()-[r]->() CREATE @k-:T->r":      api.ErrType,
		"MATCH (n)-[r]->() CREATE n-:T->r":      api.ErrType,
		"MATCH (n)-[r]->() CREATE r-:T->n":      api.ErrType,
		"MATCH (n) DELETE n DELETE n DELETE m":  api.ErrName,
		"MATCH (n)-[r]->() DELETE n REMOVE r:P": api.ErrType,
	} {
		tells(t, s, want)
	}
}

// TestFirstFaultP21_1: of several faults the one that stands first is told.
func TestFirstFaultP21_1(t *testing.T) {
	for s, want := range map[string]api.Errno{
		// Of a match its Where comes behind all its spots and rels.
		"MATCH (n)-[n]->() WHERE m RETURN 1":          api.ErrType,
		"MATCH (n)-[]->()-[n]->() WHERE m RETURN 1":   api.ErrType,
		"MATCH ()-[n]->(n) WHERE m RETURN 1":          api.ErrType,
		"MATCH (n) WHERE m MATCH ()-[n]->() RETURN 1": api.ErrName,
		"MATCH (n)-[n]->() MATCH () WHERE m RETURN 1": api.ErrType,
		"MATCH () WHERE m MATCH (n)-[n]->() DELETE m": api.ErrName,
		// Matches come ahead of items and mutations, whatever these are.
		"MATCH (n)-[n]->() RETURN m":                 api.ErrType,
		"MATCH (n)-[n]->() DELETE m":                 api.ErrType,
		"MATCH (n)-[r]->() WHERE m SET r:P":          api.ErrName,
		"MATCH (n)-[r]->() MATCH (r) CREATE m-:T->n": api.ErrType,
		// A, then B.
		"MATCH ()-[r]->() CREATE r-:T->m": api.ErrType,
		"MATCH ()-[r]->() CREATE m-:T->r": api.ErrName,
		// One mutation, then another one.
		"MATCH ()-[r]->() SET r:P DELETE m":             api.ErrType,
		"MATCH ()-[r]->() DELETE m SET r:P":             api.ErrName,
		"MATCH ()-[r]->() SET r.a = m REMOVE r:P":       api.ErrName,
		"MATCH ()-[r]->() REMOVE r:P SET r.a = m":       api.ErrType,
		"MATCH ()-[r]->() CREATE @k-:T->r REMOVE m.a":   api.ErrType,
		"MATCH ()-[r]->() CREATE @k REMOVE m.a SET r:P": api.ErrName,
	} {
		tells(t, s, want)
	}
}

// TestMayNotP21_1: what may not be is told ahead of all faults, and nothing else is told of it.
func TestMayNotP21_1(t *testing.T) {
	none := api.Query{Skip: -1, Limit: -1}
	for name, change := range map[string]func(*api.Query){
		"no items":        func(q *api.Query) { q.Items = nil },
		"items, and muts": func(q *api.Query) { q.Muts = query("CREATE @k").Muts },
		"a Where":         func(q *api.Query) { q.Matches[0].Where = 9 },
		"no spot":         func(q *api.Query) { q.Matches[0].Spots = nil },
		"a rel more":      func(q *api.Query) { q.Matches[0].Rels = append(q.Matches[0].Rels, api.Rel{}) },
		"a variable":      func(q *api.Query) { q.Matches[0].Spots[0].Var = "MATCH" },
		"an expression":   func(q *api.Query) { q.Exprs[0].Prop = "a" },
		"an item":         func(q *api.Query) { q.Items[0].Expr = -1 },
		"an item's kind":  func(q *api.Query) { q.Items[0].Kind = 6 },
		"a column":        func(q *api.Query) { q.Sorts = []api.Sort{{Column: 2}} },
		"a limit":         func(q *api.Query) { q.Limit = -2 },
		"a skip":          func(q *api.Query) { q.Skip = api.MaxNum + 1 },
		"all":             func(q *api.Query) { *q = api.Query{} },
		"nothing":         func(q *api.Query) { *q = none },
	} {
		for _, s := range []string{"MATCH (n)-[r]->() RETURN n", "MATCH (n)-[n]->() RETURN n", "MATCH (n)-[r]->() RETURN m"} {
			q := query(s)
			change(&q)
			if err := check.Query(q); err != api.ErrArg {
				t.Errorf("%s: Query is %d", name, err)
			}
			if len(check.Vars(q)) > 0 || len(check.New(q, 0)) > 0 || check.Reads(q) {
				t.Errorf("%s: Vars are %+v, New %q, Reads is %v", name, check.Vars(q), check.New(q, 0), check.Reads(q))
			}
			asked(t, q)
		}
	}
}

func TestVarsP21_1(t *testing.T) {
	node := func(name string, match int) check.Bound { return check.Bound{Var: name, Kind: api.Node, Match: match} }
	edge := func(name string, match int) check.Bound { return check.Bound{Var: name, Kind: api.Edge, Match: match} }
	for s, want := range map[string][]check.Bound{
		"RETURN 1":                               nil,
		"CREATE @k":                              nil,
		"MATCH () RETURN 1":                      nil,
		"MATCH (@k:P)-[:T]->() RETURN @k":        nil,
		"MATCH (n) RETURN n":                     {node("n", 0)},
		"MATCH ()-[r]->() DELETE r":              {edge("r", 0)},
		"MATCH (z)-[y]->(x)<-[w]-(v) RETURN 1":   {node("z", 0), edge("y", 0), node("x", 0), edge("w", 0), node("v", 0)},
		"MATCH (a)-[]->(b)-[c]->(a) RETURN 1":    {node("a", 0), node("b", 0), edge("c", 0)},
		"MATCH (b) MATCH (a) MATCH (c) RETURN 1": {node("b", 0), node("a", 1), node("c", 2)},
		"MATCH () MATCH (b)-[]->(a)-[]->(b) MATCH (a)-[c]->(d) RETURN 1":     {node("b", 1), node("a", 1), edge("c", 2), node("d", 2)},
		"MATCH ()-[r]->() OPTIONAL MATCH (n)-[r]->() WHERE n.a = 1 RETURN r": {edge("r", 0), node("n", 1)},
	} {
		q := query(s)
		l := check.Vars(q)
		if !slices.Equal(l, want) {
			t.Errorf("Vars(%s) are %+v, not %+v", s, l, want)
		}
		// What is told is new memory.
		for i := range l {
			l[i] = check.Bound{}
		}
		asked(t, q)
	}
}

func TestNewP21_1(t *testing.T) {
	q := query("MATCH (b)-[r]->(a) OPTIONAL MATCH (a)-[s]->(d)-[r]->(c) MATCH (b)-[r]->() MATCH (e)-[]->(e) RETURN a")
	for match, want := range [][]string{{"b", "r", "a"}, {"s", "d", "c"}, nil, {"e"}} {
		l := check.New(q, match)
		if !slices.Equal(l, want) {
			t.Errorf("New(%d) are %q, not %q", match, l, want)
		}
		for i := range l {
			l[i] = ""
		}
		if l := check.New(q, match); !slices.Equal(l, want) {
			t.Errorf("New(%d) are %q now", match, l)
		}
	}
	for _, match := range []int{-1, 4, 5, math.MaxInt, math.MinInt} {
		if l := check.New(q, match); len(l) > 0 {
			t.Errorf("New(%d) are %q", match, l)
		}
	}
	for _, match := range []int{-1, 0, 1} {
		if l := check.New(query("CREATE @k"), match); len(l) > 0 {
			t.Errorf("New(%d) are %q, of no match", match, l)
		}
	}
}

// TestReadsP21_1: also of a query that isn't sound.
func TestReadsP21_1(t *testing.T) {
	for s, want := range map[string]bool{
		"RETURN 1":                          true,
		"MATCH (n) RETURN n":                true,
		"MATCH (n) RETURN m":                true,
		"MATCH (n)-[n]->() RETURN COUNT(*)": true,
		"CREATE @k":                         false,
		"MATCH (n) DELETE n":                false,
		"DELETE n":                          false,
	} {
		if check.Reads(query(s)) != want {
			t.Errorf("Reads(%s) is %v", s, !want)
		}
	}
	q := query("RETURN 1")
	q.Items[0].Expr = 1
	if check.Reads(q) {
		t.Error("a query that may not be reads")
	}
}
