package vector_test

import (
	"math"
	"math/big"
	"math/rand"
	"slices"
	"testing"

	"hedgerow/api"
	"hedgerow/vector"
)

// numbers are those at which something turns, rising, and beyond.
func numbers() []int {
	return []int{
		math.MinInt, math.MinInt + 1, -1 << 62, -api.MaxCount - 1, -api.MaxCount, -2, -1, 0, 1, 2, 3, 4095, 4096, 4097,
		api.MaxCount - 1, api.MaxCount, api.MaxCount + 1, 1<<62 - 1, 1 << 62, 1<<62 + 1, math.MaxInt - 1, math.MaxInt,
	}
}

// dots are those at the edges of what may be, and beyond.
func dots() []api.Dot {
	var l []api.Dot
	for _, replica := range []int{math.MinInt, -16, -1, 0, 1, 7, 14, 15, 16, 17, 32, math.MaxInt} {
		for _, count := range numbers() {
			l = append(l, api.Dot{Replica: replica, Count: count})
		}
	}
	return l
}

// dotMayBe is the chapter's sentence on what a dot may be.
func dotMayBe(d api.Dot) bool {
	return d.Replica >= 0 && d.Replica <= 15 && d.Count >= 1 && d.Count <= 1<<20
}

// full is a vector of one number.
func full(n int) api.Vector {
	var v api.Vector
	for i := range v {
		v[i] = n
	}
	return v
}

// with is a vector with another number of one replica; of no replica, it is as it was.
func with(v api.Vector, replica, n int) api.Vector {
	if replica >= 0 && replica < len(v) {
		v[replica] = n
	}
	return v
}

// small are all vectors whose numbers of three replicas are 0 to 2, all others rest.
func small(rest int) []api.Vector {
	var l []api.Vector
	for n := range 27 {
		v := full(rest)
		v[0], v[7], v[15] = n%3, n/3%3, n/9
		l = append(l, v)
	}
	return l
}

// some is a vector of numbers of no pattern, most of them from a list.
func some(r *rand.Rand, l []int) api.Vector {
	var v api.Vector
	for i := range v {
		v[i] = l[r.Intn(len(l))]
		if r.Intn(8) == 0 {
			v[i] = int(r.Uint64()) >> r.Intn(64)
		}
	}
	return v
}

// pairs are vectors of all sorts, two by two.
func pairs() [][2]api.Vector {
	var l [][2]api.Vector
	for _, a := range small(0) {
		for _, b := range small(0) {
			l = append(l, [2]api.Vector{a, b})
		}
	}
	for i := range api.MaxReplicas {
		for _, m := range numbers() {
			for _, n := range numbers() {
				l = append(l, [2]api.Vector{with(full(1), i, m), with(full(1), i, n)})
			}
		}
	}
	r := rand.New(rand.NewSource(1))
	for range 5000 {
		a := some(r, numbers())
		b := a
		for range r.Intn(4) {
			b[r.Intn(len(b))] = numbers()[r.Intn(len(numbers()))]
		}
		l = append(l, [2]api.Vector{a, b}, [2]api.Vector{a, some(r, numbers())}, [2]api.Vector{some(r, []int{0, 1}), some(r, []int{0, 1})})
	}
	return l
}

// below is the chapter's sentence on it, number by number.
func below(a, b api.Vector) bool {
	for i := range a {
		if a[i] > b[i] {
			return false
		}
	}
	return true
}

func TestRightP5_1(t *testing.T) {
	for _, rest := range []int{0, 1, api.MaxCount} {
		if !vector.Right(full(rest)) {
			t.Errorf("a vector of %d may not be", rest)
		}
		for i := range api.MaxReplicas {
			for _, n := range numbers() {
				if got, want := vector.Right(with(full(rest), i, n)), n >= 0 && n <= 1<<20; got != want {
					t.Errorf("Right of %d, of replica %d %d, is %v", rest, i, n, got)
				}
			}
		}
	}
	for _, n := range []int{-1, api.MaxCount + 1, math.MinInt, math.MaxInt} {
		if vector.Right(full(n)) {
			t.Errorf("a vector of %d may be", n)
		}
	}
	// One too low doesn't make up for one too high.
	if vector.Right(with(with(full(0), 3, -1), 4, api.MaxCount+1)) {
		t.Error("a vector of -1 and MaxCount + 1 may be")
	}
}

func TestDotP5_1(t *testing.T) {
	for _, d := range dots() {
		if got := vector.Dot(d); got != dotMayBe(d) {
			t.Errorf("Dot(%v) is %v", d, got)
		}
	}
	for replica := range api.MaxReplicas {
		for count, want := range map[int]bool{0: false, 1: true, 2: true, api.MaxCount: true, api.MaxCount + 1: false} {
			if got := vector.Dot(api.Dot{Replica: replica, Count: count}); got != want {
				t.Errorf("Dot of replica %d, count %d, is %v", replica, count, got)
			}
		}
	}
	if vector.Dot(api.Dot{}) {
		t.Error("the dot of nothing may be")
	}
}

// around asks with each dot and vectors whose number of its replica is near its Count, or at an edge; those of all others are the least, 0, or the greatest.
func around(ask func(v api.Vector, d api.Dot)) {
	for _, d := range dots() {
		near := append(numbers(), d.Count-2, d.Count-1, d.Count, d.Count+1)
		for _, n := range near {
			for _, rest := range []int{math.MinInt, 0, math.MaxInt} {
				ask(with(full(rest), d.Replica, n), d)
			}
		}
	}
}

func TestKnowsP5_1(t *testing.T) {
	around(func(v api.Vector, d api.Dot) {
		if got, want := vector.Knows(v, d), dotMayBe(d) && v[d.Replica] >= d.Count; got != want {
			t.Fatalf("Knows(%v, %v) is %v", v, d, got)
		}
	})
	v := api.Vector{2: 5}
	for count, want := range map[int]bool{-1: false, 0: false, 1: true, 4: true, 5: true, 6: false} {
		if got := vector.Knows(v, api.Dot{Replica: 2, Count: count}); got != want {
			t.Errorf("of 5 known ones, Knows of %d is %v", count, got)
		}
	}
	if vector.Knows(full(math.MaxInt), api.Dot{Count: api.MaxCount + 1}) {
		t.Error("a dot that may not be is known")
	}
}

func TestNextP5_1(t *testing.T) {
	around(func(v api.Vector, d api.Dot) {
		if got, want := vector.Next(v, d), dotMayBe(d) && v[d.Replica]+1 == d.Count; got != want {
			t.Fatalf("Next(%v, %v) is %v", v, d, got)
		}
	})
	v := with(full(5), 2, 7)
	for count, want := range map[int]bool{1: false, 6: false, 7: false, 8: true, 9: false} {
		if got := vector.Next(v, api.Dot{Replica: 2, Count: count}); got != want {
			t.Errorf("behind 7, Next of %d is %v", count, got)
		}
	}
	for i := range api.MaxReplicas {
		if !vector.Next(api.Vector{}, api.Dot{Replica: i, Count: 1}) {
			t.Errorf("the first dot of replica %d isn't the next one to nothing", i)
		}
		if !vector.Next(with(full(0), i, api.MaxCount-1), api.Dot{Replica: i, Count: api.MaxCount}) {
			t.Errorf("the last dot of replica %d isn't the next one to that ahead of it", i)
		}
		if vector.Next(full(api.MaxCount), api.Dot{Replica: i, Count: api.MaxCount + 1}) || vector.Next(full(-1), api.Dot{Replica: i}) {
			t.Errorf("a dot of replica %d that may not be is the next one", i)
		}
	}
}

func TestAddP5_1(t *testing.T) {
	around(func(v api.Vector, d api.Dot) {
		want := v
		if dotMayBe(d) && v[d.Replica] < d.Count {
			want = with(v, d.Replica, d.Count)
		}
		got := vector.Add(v, d)
		if got != want {
			t.Fatalf("Add(%v, %v) is %v", v, d, got)
		}
		if vector.Knows(got, d) != dotMayBe(d) {
			t.Fatalf("behind Add(%v, %v) it is not as it should be known", v, d)
		}
	})
	v := api.Vector{}
	for _, d := range []api.Dot{{Replica: 3, Count: 2}, {Replica: 3, Count: 1}, {Replica: 0, Count: 1}, {Replica: 15, Count: api.MaxCount}, {Replica: 16, Count: 1}, {Replica: 1, Count: 0}} {
		v = vector.Add(v, d)
	}
	if want := (api.Vector{0: 1, 3: 2, 15: api.MaxCount}); v != want {
		t.Errorf("behind six dots it is %v", v)
	}
}

func TestJoinMeetP5_1(t *testing.T) {
	for _, p := range pairs() {
		join, meet := vector.Join(p[0], p[1]), vector.Meet(p[0], p[1])
		for i := range api.MaxReplicas {
			a, b := p[0][i], p[1][i]
			more, less := a, b
			if a < b {
				more, less = b, a
			}
			if join[i] != more || meet[i] != less {
				t.Fatalf("of %v and %v Join is %v, Meet %v", p[0], p[1], join, meet)
			}
		}
	}
}

// TestLeastP5_2 holds Join and Meet of all small vectors against all small vectors.
func TestLeastP5_2(t *testing.T) {
	for _, rest := range []int{0, 1, -1, api.MaxCount} {
		all := small(rest)
		for _, a := range all {
			for _, b := range all {
				join, meet := vector.Join(a, b), vector.Meet(a, b)
				if !below(a, join) || !below(b, join) || !below(meet, a) || !below(meet, b) {
					t.Fatalf("of %v and %v Join %v isn't above both, or Meet %v not below both", a, b, join, meet)
				}
				for _, c := range all {
					if below(a, c) && below(b, c) && !below(join, c) {
						t.Fatalf("%v is above %v and %v, but not above Join %v", c, a, b, join)
					}
					if below(c, a) && below(c, b) && !below(c, meet) {
						t.Fatalf("%v is below %v and %v, but not below Meet %v", c, a, b, meet)
					}
				}
			}
		}
	}
}

// TestLeastOfOnesP5_2: with any one number less Join isn't above both any more, with any one greater Meet isn't below both.
func TestLeastOfOnesP5_2(t *testing.T) {
	for _, p := range pairs() {
		a, b := p[0], p[1]
		join, meet := vector.Join(a, b), vector.Meet(a, b)
		if !vector.Below(a, join) || !vector.Below(b, join) || !vector.Below(meet, a) || !vector.Below(meet, b) {
			t.Fatalf("of %v and %v Join is %v, Meet %v", a, b, join, meet)
		}
		for i := range api.MaxReplicas {
			less, more := with(join, i, join[i]-1), with(meet, i, meet[i]+1)
			if join[i] > math.MinInt && vector.Below(a, less) && vector.Below(b, less) {
				t.Fatalf("%v, less than Join, is above %v and %v", less, a, b)
			}
			if meet[i] < math.MaxInt && vector.Below(more, a) && vector.Below(more, b) {
				t.Fatalf("%v, greater than Meet, is below %v and %v", more, a, b)
			}
		}
		if vector.Join(b, a) != join || vector.Meet(b, a) != meet || vector.Join(a, meet) != a || vector.Meet(a, join) != a {
			t.Fatalf("of %v and %v Join and Meet don't go together", a, b)
		}
	}
}

func TestBelowP5_1(t *testing.T) {
	for _, p := range pairs() {
		for _, q := range [][2]api.Vector{p, {p[1], p[0]}, {p[0], p[0]}} {
			if got := vector.Below(q[0], q[1]); got != below(q[0], q[1]) {
				t.Fatalf("Below(%v, %v) is %v", q[0], q[1], got)
			}
		}
	}
	for i := range api.MaxReplicas {
		v := full(4)
		if !vector.Below(v, with(v, i, 5)) || vector.Below(with(v, i, 5), v) || !vector.Below(with(v, i, 3), v) || vector.Below(v, with(v, i, 3)) {
			t.Errorf("the number of replica %d doesn't count", i)
		}
	}
}

func TestOrderP5_1(t *testing.T) {
	for _, c := range []struct {
		a, b api.Vector
		want int
	}{
		{api.Vector{}, api.Vector{}, 0},
		{api.Vector{1}, api.Vector{1}, 0},
		{full(api.MaxCount), full(api.MaxCount), 0},
		{api.Vector{}, api.Vector{1}, -1},
		{api.Vector{}, api.Vector{15: 1}, -1},
		{api.Vector{1, 2}, api.Vector{1, 3}, -1},
		{api.Vector{1, 2}, api.Vector{2, 3}, -1},
		{api.Vector{1}, api.Vector{}, 1},
		{api.Vector{15: 2}, api.Vector{15: 1}, 1},
		{api.Vector{3, 2}, api.Vector{1, 2}, 1},
		{api.Vector{1, 0}, api.Vector{0, 1}, 2},
		{api.Vector{0, 1}, api.Vector{1, 0}, 2},
		{api.Vector{14: 1}, api.Vector{15: 1}, 2},
		{api.Vector{9, 9, 1}, api.Vector{1, 1, 2}, 2},
		{api.Vector{5, 5, 1}, api.Vector{5, 5, 0, 1}, 2},
		{full(math.MinInt), full(math.MaxInt), -1},
		{api.Vector{-1, 1}, api.Vector{}, 2},
	} {
		if got := vector.Order(c.a, c.b); got != c.want {
			t.Errorf("Order(%v, %v) is %d, not %d", c.a, c.b, got, c.want)
		}
	}
	for _, p := range pairs() {
		want := 2
		switch up, down := below(p[0], p[1]), below(p[1], p[0]); {
		case up && down:
			want = 0
		case up:
			want = -1
		case down:
			want = 1
		}
		if got := vector.Order(p[0], p[1]); got != want {
			t.Fatalf("Order(%v, %v) is %d, not %d", p[0], p[1], got, want)
		}
	}
}

func TestSumP5_1(t *testing.T) {
	const most = 1 << 62
	for _, c := range []struct {
		v    api.Vector
		want int
	}{
		{api.Vector{}, 0},
		{full(1), 16},
		{full(-1), 0},
		{full(math.MinInt), 0},
		{full(api.MaxCount), 1 << 24},
		{api.Vector{1, 2, 3}, 6},
		{api.Vector{15: 9}, 9},
		{api.Vector{-1, 5}, 5},
		{api.Vector{5, -9}, 5},
		{api.Vector{3, math.MinInt, 4, -1}, 7},
		{api.Vector{most - 1}, most - 1},
		{api.Vector{most}, most},
		{api.Vector{most + 1}, most},
		{api.Vector{most - 1, 1}, most},
		{api.Vector{most - 1, 2}, most},
		{api.Vector{1, most - 2}, most - 1},
		{api.Vector{most, 1}, most},
		{api.Vector{most, most}, most},
		{api.Vector{most, -1}, most},
		{api.Vector{most + 5, -5}, most},
		{api.Vector{most / 2, most / 2}, most},
		{api.Vector{most / 2, most/2 - 1}, most - 1},
		{api.Vector{most / 2, most / 2, most / 2}, most},
		{api.Vector{math.MaxInt}, most},
		{api.Vector{math.MaxInt, 1}, most},
		{api.Vector{math.MaxInt, math.MinInt}, most},
		{api.Vector{math.MaxInt, math.MaxInt, 2}, most},
		{api.Vector{13: 7, 14: math.MaxInt, 15: math.MaxInt}, most},
		{full(math.MaxInt), most},
		{full(most / 16), most},
		{full(most/16 - 1), most - 16},
		{with(full(most/16), 9, most/16-1), most - 1},
		{full(most/16 + 1), most},
	} {
		if got := vector.Sum(c.v); got != c.want {
			t.Errorf("Sum(%v) is %d, not %d", c.v, got, c.want)
		}
	}
	r := rand.New(rand.NewSource(2))
	for range 20000 {
		v := some(r, append(numbers(), 1<<58, 1<<59, 1<<60, 1<<61))
		want := new(big.Int)
		for _, n := range v {
			if n > 0 {
				want.Add(want, big.NewInt(int64(n)))
			}
		}
		if want.Cmp(big.NewInt(most)) > 0 {
			want.SetInt64(most)
		}
		if got := vector.Sum(v); int64(got) != want.Int64() {
			t.Fatalf("Sum(%v) is %d, not %d", v, got, want)
		}
	}
}

// row are dots of one replica, rising.
func row(replica, from, to int) []api.Dot {
	var l []api.Dot
	for count := from; count <= to; count++ {
		l = append(l, api.Dot{Replica: replica, Count: count})
	}
	return l
}

func TestMissingP5_1(t *testing.T) {
	const most = 4096
	top := api.MaxCount
	for _, c := range []struct {
		name string
		a, b api.Vector
		want [][]api.Dot
	}{
		{"nothing of nothing", api.Vector{}, api.Vector{}, nil},
		{"nothing of the same", full(9), full(9), nil},
		{"nothing of what is below", full(9), with(full(9), 3, 8), nil},
		{"nothing of all known", full(top), full(top), nil},
		{"one", api.Vector{}, api.Vector{1}, [][]api.Dot{row(0, 1, 1)}},
		{"nothing that may not be", full(top), full(top + 1), nil},
		{"the last one", with(full(top), 4, top-1), full(top), [][]api.Dot{row(4, top, top)}},
		{"by replicas, then rising", api.Vector{1, 5, 0, 2}, api.Vector{3, 2, 1, 2, 15: 2}, [][]api.Dot{row(0, 2, 3), row(2, 1, 1), row(15, 1, 2)}},
		{"of each replica", full(1), full(3), [][]api.Dot{row(0, 2, 3), row(1, 2, 3), row(2, 2, 3), row(3, 2, 3), row(4, 2, 3), row(5, 2, 3), row(6, 2, 3), row(7, 2, 3), row(8, 2, 3), row(9, 2, 3), row(10, 2, 3), row(11, 2, 3), row(12, 2, 3), row(13, 2, 3), row(14, 2, 3), row(15, 2, 3)}},
		{"one fewer than 4096", api.Vector{5: 7}, api.Vector{5: 7 + most - 1}, [][]api.Dot{row(5, 8, 7+most-1)}},
		{"just 4096", api.Vector{5: 7}, api.Vector{5: 7 + most}, [][]api.Dot{row(5, 8, 7+most)}},
		{"one more than 4096", api.Vector{5: 7}, api.Vector{5: 7 + most + 1}, [][]api.Dot{row(5, 8, 7+most)}},
		{"just 4096 of two", api.Vector{}, api.Vector{1: 96, 2: 4000}, [][]api.Dot{row(1, 1, 96), row(2, 1, 4000)}},
		{"4097 of two", api.Vector{}, api.Vector{1: 96, 2: 4001}, [][]api.Dot{row(1, 1, 96), row(2, 1, 4000)}},
		{"4096 of one, one of another", api.Vector{}, api.Vector{1: most, 2: 1}, [][]api.Dot{row(1, 1, most)}},
		{"4095 of one, two of another", api.Vector{}, api.Vector{1: most - 1, 2: 2}, [][]api.Dot{row(1, 1, most-1), row(2, 1, 1)}},
		{"one of one, 4096 of another", api.Vector{}, api.Vector{1: 1, 15: most}, [][]api.Dot{row(1, 1, 1), row(15, 1, most-1)}},
		{"all there can be", api.Vector{}, full(top), [][]api.Dot{row(0, 1, most)}},
		{"a below 0", full(-1), api.Vector{2: 3}, [][]api.Dot{row(2, 1, 3)}},
		{"a far below 0", full(math.MinInt), api.Vector{2: 3}, [][]api.Dot{row(2, 1, 3)}},
		{"both below 0", full(-5), full(-1), nil},
		{"b below 0", full(-5), full(math.MinInt), nil},
		{"b at 0", full(-5), full(0), nil},
		{"a above MaxCount", full(top + 1), full(top), nil},
		{"both above MaxCount", full(top + 1), full(top + 5), nil},
		{"both far above MaxCount", full(math.MaxInt - 1), full(math.MaxInt), nil},
		{"both the greatest", full(math.MaxInt), full(math.MaxInt), nil},
		{"b above MaxCount", with(full(top), 6, top-2), full(top + 1), [][]api.Dot{row(6, top-1, top)}},
		{"b far above MaxCount", with(full(top), 6, top-2), full(math.MaxInt), [][]api.Dot{row(6, top-1, top)}},
		{"from the least to the greatest", full(math.MinInt), full(math.MaxInt), [][]api.Dot{row(0, 1, most)}},
		{"b above MaxCount by more than 4096", with(full(top), 6, top-most), full(math.MaxInt), [][]api.Dot{row(6, top-most+1, top)}},
	} {
		if got := vector.Missing(c.a, c.b); !slices.Equal(got, slices.Concat(c.want...)) {
			t.Errorf("%s: Missing tells %d dots: %v", c.name, len(got), got[:min(len(got), 9)])
		}
	}
}

// TestMissingIsUnknownP5_1 asks Knows of all dots that could be missing.
func TestMissingIsUnknownP5_1(t *testing.T) {
	r := rand.New(rand.NewSource(3))
	for range 300 {
		a, b := some(r, []int{0, 1, 2, 9, 40, -1}), some(r, []int{0, 1, 2, 3, 9, 41, -3})
		var want []api.Dot
		for i := range api.MaxReplicas {
			for count := 1; count <= api.MaxCount && len(want) < 4096 && count <= b[i]; count++ {
				if d := (api.Dot{Replica: i, Count: count}); vector.Knows(b, d) && !vector.Knows(a, d) {
					want = append(want, d)
				}
			}
		}
		if got := vector.Missing(a, b); !slices.Equal(got, want) {
			t.Fatalf("Missing(%v, %v) tells %d dots, not %d", a, b, len(got), len(want))
		}
	}
}

// TestMissingIsNewP5_1: an answer is new memory.
func TestMissingIsNewP5_1(t *testing.T) {
	a, b := api.Vector{}, api.Vector{2, 1}
	first, second := vector.Missing(a, b), vector.Missing(a, b)
	clear(first)
	_ = append(second[:1], api.Dot{Replica: 9, Count: 9})
	if got, want := vector.Missing(a, b), append(row(0, 1, 2), row(1, 1, 1)...); !slices.Equal(got, want) {
		t.Errorf("behind a change of its answers Missing is %v", got)
	}
}

// TestNoPanicP5 asks all calls at arguments of all sorts: a panic fails it, and so does what doesn't end.
func TestNoPanicP5(t *testing.T) {
	r := rand.New(rand.NewSource(4))
	l := append(numbers(), 15, 16, 17)
	for range 5000 {
		a, b := some(r, l), some(r, l)
		d := api.Dot{Replica: l[r.Intn(len(l))], Count: l[r.Intn(len(l))]}
		if r.Intn(2) == 0 {
			d.Replica = r.Intn(18) - 1
		}
		vector.Right(a)
		vector.Dot(d)
		vector.Knows(a, d)
		vector.Next(a, d)
		vector.Add(a, d)
		if join := vector.Join(a, b); vector.Order(a, join) > 0 || !vector.Below(vector.Meet(a, b), join) {
			t.Fatalf("of %v and %v Join is %v", a, b, join)
		}
		if n := vector.Sum(a); n < 0 || n > 1<<62 {
			t.Fatalf("Sum(%v) is %d", a, n)
		}
		if n := len(vector.Missing(a, b)); n > 4096 {
			t.Fatalf("Missing(%v, %v) tells %d dots", a, b, n)
		}
	}
}
