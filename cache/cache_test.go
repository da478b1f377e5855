package cache

import (
	"math"
	"slices"
	"strconv"
	"sync"
	"testing"
	"time"

	"dipper/api"
	"dipper/table"
)

func round(h, a0, a1 int64) api.Section { return api.Section{Round: true, H: h, A0: a0, A1: a1} }

func box(h, a0, b0, a1, b1 int64) api.Section {
	return api.Section{H: h, A0: a0, B0: b0, A1: a1, B1: b1}
}

func list(s ...api.Section) []api.Section { return s }

// apart are shapes that are Right, no two of them the Same: each differs from the first by one thing, or holds the same numbers in another way.
func apart() [][]api.Section {
	return [][]api.Section{
		list(box(100, 5, 5, 5, 5)),
		list(box(200, 5, 5, 5, 5)),
		list(box(100, 6, 5, 5, 5)),
		list(box(100, 5, 6, 5, 5)),
		list(box(100, 5, 5, 6, 5)),
		list(box(100, 5, 5, 5, 6)),
		list(round(100, 5, 5)),
		list(box(100, 0, 0, 5, 5)),
		list(box(100, 5, 0, 5, 5)),
		list(box(100, 0, 5, 5, 5)),
		// numbers of which one text might be made
		list(box(100, 1, 11, 1, 1)),
		list(box(100, 11, 1, 1, 1)),
		list(box(100, 1, 1, 11, 1)),
		list(box(1100, 1, 1, 1, 1)),
		// pieces of one height and of the same tables
		list(box(100, 5, 5, 5, 5), box(100, 5, 5, 5, 5)),
		list(box(100, 5, 5, 5, 5), box(100, 5, 5, 6, 5)),
		list(box(100, 5, 5, 6, 5), box(100, 5, 5, 5, 5)),
		list(round(100, 5, 5), box(100, 5, 5, 5, 5)),
		list(box(100, 5, 5, 5, 5), round(100, 5, 5)),
		list(box(100, 5, 5, 5, 5), box(100, 5, 5, 5, 5), box(100, 5, 5, 5, 5), box(100, 5, 5, 5, 5)),
		list(box(60000, 20000, 20000, 20000, 20000)),
		list(round(59900, 0, 20000), round(100, 20000, 20000)),
	}
}

// wrong are shapes that aren't Right: those that the bounds just leave out, and some far from them.
func wrong() [][]api.Section {
	s := box(100, 5, 5, 5, 5)
	return [][]api.Section{
		nil,
		{},
		list(s, s, s, s, s),
		list(box(0, 5, 5, 5, 5)),
		list(box(-100, 5, 5, 5, 5)),
		list(box(150, 5, 5, 5, 5)),
		list(box(60100, 5, 5, 5, 5)),
		list(box(60000, 5, 5, 5, 5), s),
		list(box(math.MaxInt64, 5, 5, 5, 5)),
		list(box(math.MinInt64, 5, 5, 5, 5)),
		list(box(100, -1, 5, 5, 5)),
		list(box(100, 5, 20001, 5, 5)),
		list(box(100, 5, 5, 0, 5)),
		list(box(100, 5, 5, 5, 0)),
		list(api.Section{Round: true, H: 100, A0: 5, B0: 1, A1: 5}),
		list(api.Section{Round: true, H: 100, A0: 5, A1: 5, B1: 1}),
		list(round(100, 5, 0)),
		list(s, api.Section{}),
	}
}

// tell is all that a table answers.
func tell(made *table.Table) string {
	var text []byte
	for i := -1; i <= made.Slices()+1; i++ {
		for _, v := range []int64{made.Low(i), made.High(i), made.True(i, 77), made.Height()} {
			text = strconv.AppendInt(text, v, 10)
			text = append(text, ' ')
		}
	}
	return string(text)
}

// like: is made a table such as table.Of makes of s?
func like(made *table.Table, s []api.Section) bool {
	fresh, e := table.Of(s)
	return e == api.OK && made != nil && tell(made) == tell(fresh)
}

func get(t *testing.T, c *Cache, s []api.Section) *table.Table {
	t.Helper()
	made, e := c.Table(s)
	if e != api.OK || made == nil {
		t.Fatalf("Table(%v): %d", s, e)
	}
	return made
}

func counts(t *testing.T, c *Cache, built, asked int64) {
	t.Helper()
	if c.Built() != built || c.Asked() != asked {
		t.Errorf("Built, Asked: %d, %d, not %d, %d", c.Built(), c.Asked(), built, asked)
	}
}

// atOnce calls do with 0 to n - 1, each in a goroutine of its own, all of them let go at one time.
func atOnce(n int, do func(i int)) {
	var all sync.WaitGroup
	start := make(chan int)
	for i := range n {
		all.Go(func() {
			<-start
			do(i)
		})
	}
	close(start)
	all.Wait()
}

// P6.1
func TestOneTableOfAShape(t *testing.T) {
	c := New()
	counts(t, c, 0, 0)
	s := list(round(100, 50, 50), box(200, 3, 4, 5, 6))
	first := get(t, c, s)
	counts(t, c, 1, 1)
	if !like(first, s) {
		t.Errorf("Table isn't as table.Of: %s", tell(first))
	}
	// the same list, the same numbers in other memory, with spare room behind them
	spare := append(slices.Clone(s), round(100, 7, 7))
	for i, again := range [][]api.Section{s, slices.Clone(s), spare[:2]} {
		if got := get(t, c, again); got != first {
			t.Errorf("at %d: another table of the same shape", i)
		}
		counts(t, c, 1, int64(i+2))
	}
}

// P6.1
func TestATableForEachShape(t *testing.T) {
	c, all := New(), apart()
	first := make([]*table.Table, len(all))
	for i, s := range all {
		first[i] = get(t, c, s)
		if !like(first[i], s) {
			t.Errorf("%v: Table isn't as table.Of: %s", s, tell(first[i]))
		}
		if k := slices.Index(first, first[i]); k != i {
			t.Errorf("%v, %v: one table of two shapes", all[k], s)
		}
		counts(t, c, int64(i+1), int64(i+1))
	}
	// others between them take none of them away
	for i, s := range all {
		if get(t, c, slices.Clone(s)) != first[i] {
			t.Errorf("%v: another table, asked again", s)
		}
	}
	counts(t, c, int64(len(all)), int64(2*len(all)))
}

// P6.1: wrong shapes are asked for, but never made, and do no harm to right ones.
func TestOfNoShape(t *testing.T) {
	c := New()
	s := list(box(100, 5, 5, 5, 5))
	first, asked := get(t, c, s), int64(1)
	for range 2 {
		for _, no := range wrong() {
			made, e := c.Table(no)
			asked++
			if made != nil || e != api.ErrShape {
				t.Errorf("Table(%v): %d, not %d", no, e, api.ErrShape)
			}
			counts(t, c, 1, asked)
		}
	}
	if get(t, c, s) != first {
		t.Error("another table behind wrong shapes")
	}
}

// P6.1: no promise needs anything of wrong shapes: nothing is kept of them, however many are asked for.
func TestNothingIsKeptOfNoShape(t *testing.T) {
	c := New()
	c.All(wrong())
	for i := range int64(100) {
		c.Table(list(box(i, -1, 0, 0, 0)))
	}
	if len(c.entries) != 0 {
		t.Errorf("%d entries of wrong shapes", len(c.entries))
	}
	c.All(append(apart(), apart()...))
	if len(c.entries) != len(apart()) {
		t.Errorf("%d entries of %d shapes", len(c.entries), len(apart()))
	}
}

// P6.1
func TestAll(t *testing.T) {
	c := New()
	if got := c.All(nil); len(got) != 0 {
		t.Errorf("All of none: %d", len(got))
	}
	if got := c.All([][]api.Section{}); len(got) != 0 {
		t.Errorf("All of none: %d", len(got))
	}
	counts(t, c, 0, 0)
	right, no := apart(), wrong()
	early := get(t, c, right[3])
	// wrong ones between right ones, all of them three times
	var l [][]api.Section
	for range 3 {
		for i := range max(len(right), len(no)) {
			l = append(l, right[i%len(right)], no[i%len(no)])
		}
	}
	got := c.All(l)
	if len(got) != len(l) {
		t.Fatalf("All: %d of %d", len(got), len(l))
	}
	counts(t, c, int64(len(right)), int64(1+len(l)))
	for i, made := range got {
		switch {
		case i%2 == 1:
			if made != nil {
				t.Errorf("All at %d: a table of %v", i, l[i])
			}
		case !like(made, l[i]) || made != get(t, c, l[i]):
			t.Errorf("All at %d: not the table of %v", i, l[i])
		}
	}
	if got[6] != early {
		t.Error("All: another table than the one that was made ahead")
	}
}

// P6.1: where all are wrong, or there is one alone.
func TestAllOfFew(t *testing.T) {
	c := New()
	got := c.All(wrong())
	if len(got) != len(wrong()) || slices.ContainsFunc(got, func(made *table.Table) bool { return made != nil }) {
		t.Errorf("All of wrong ones: %v", got)
	}
	counts(t, c, 0, int64(len(wrong())))
	s := list(round(300, 7, 9))
	if got := c.All([][]api.Section{s}); len(got) != 1 || !like(got[0], s) {
		t.Errorf("All of one: %d", len(got))
	}
	counts(t, c, 1, int64(len(wrong())+1))
}

// P6.1: what All answers is whole: all were asked for when it answers, many as they are.
func TestAllOfMany(t *testing.T) {
	c, all := New(), apart()
	l := make([][]api.Section, 20000)
	for i := range l {
		l[i] = all[i%len(all)]
	}
	got := c.All(l)
	counts(t, c, int64(len(all)), int64(len(l)))
	for i, made := range got {
		if made == nil || made != got[i%len(all)] {
			t.Fatalf("All at %d: not the table of %v", i, l[i])
		}
	}
}

// P6.1: each shape of All is asked for by a goroutine of its own: while no entry is to be had, all of them have asked yet.
func TestAllAsksAtOnce(t *testing.T) {
	c, right := New(), apart()
	done := make(chan []*table.Table)
	c.lock.Lock()
	go func() { done <- c.All(right) }()
	for tries := 0; c.Asked() < int64(len(right)) && tries < 10000; tries++ {
		time.Sleep(time.Millisecond)
	}
	counts(t, c, 0, int64(len(right)))
	c.lock.Unlock()
	for i, made := range <-done {
		if !like(made, right[i]) {
			t.Errorf("All at %d: not the table of %v", i, right[i])
		}
	}
	counts(t, c, int64(len(right)), int64(len(right)))
}

// P6.1, P6.2: of those who ask at once for one shape that was never asked for, all get one table, made once.
func TestManyAskForOne(t *testing.T) {
	s := list(round(60000, 1, 20000)) // the longest to make
	for range 50 {
		c := New()
		got := make([]*table.Table, 32)
		atOnce(len(got), func(i int) {
			got[i], _ = c.Table(s)
			if c.Built() != 1 {
				t.Errorf("Built, behind a table: %d", c.Built())
			}
		})
		counts(t, c, 1, int64(len(got)))
		for i, made := range got {
			if made == nil || made != got[0] {
				t.Fatalf("at %d: another table", i)
			}
		}
		if !like(got[0], s) {
			t.Fatalf("Table isn't as table.Of: %s", tell(got[0]))
		}
	}
}

// P6.1, P6.2: many ask at once for many, by Table and by All, for wrong ones too.
func TestManyAskForMany(t *testing.T) {
	c, right, no := New(), apart(), wrong()
	one := make([][]*table.Table, 16)
	lot := make([][]*table.Table, 16)
	atOnce(len(one), func(k int) {
		one[k] = make([]*table.Table, len(right))
		for j := range right {
			i := (j + k) % len(right) // each in another order
			one[k][i], _ = c.Table(right[i])
			if made, e := c.Table(no[j%len(no)]); made != nil || e != api.ErrShape {
				t.Errorf("Table(%v): %d, not %d", no[j%len(no)], e, api.ErrShape)
			}
		}
		lot[k] = c.All(right)
	})
	counts(t, c, int64(len(right)), int64(len(one)*3*len(right)))
	for i, s := range right {
		first := get(t, c, s)
		for k := range one {
			if one[k][i] != first || lot[k][i] != first {
				t.Errorf("%v: another table for asker %d", s, k)
			}
		}
	}
}

// P6.1: counts only rise while many ask, and no more is made than was asked for.
func TestCountsWhileManyAsk(t *testing.T) {
	c, right := New(), apart()
	atOnce(16, func(k int) {
		built, asked := int64(0), int64(0)
		for range 20 {
			c.Table(right[k])
			// what was made is read ahead of what was asked for
			b, a := c.Built(), c.Asked()
			if b < max(built, 1) || a < asked+1 || b > a {
				t.Errorf("Built, Asked: %d, %d, and %d, %d ahead", b, a, built, asked)
			}
			built, asked = b, a
		}
	})
	counts(t, c, 16, 320)
}

// P6.1, and DOC.md's third rule: what is handed in is neither changed nor kept, the spare room behind it included.
func TestShapesAreLeftAlone(t *testing.T) {
	c := New()
	spare := list(round(100, 424, 424), box(200, 3, 4, 5, 6), box(100, 9, 9, 9, 9))
	lists := [][]api.Section{spare[:2], spare[1:2], nil, spare[2:]}
	before := slices.Clone(spare)
	first := get(t, c, spare[:2])
	got := c.All(lists[:3])
	if !slices.Equal(spare, before) || len(lists) != 4 || len(lists[0]) != 2 || len(lists[1]) != 1 || lists[2] != nil || &lists[3][0] != &spare[2] {
		t.Errorf("%v was changed: %v", before, spare)
	}
	told := tell(first)
	for i := range spare {
		spare[i] = round(300, 20000, 20000)
	}
	if got[0] != first || tell(first) != told {
		t.Errorf("the table changed with the shape: %s", tell(first))
	}
	if get(t, c, before[:2]) != first || get(t, c, before[1:2]) != got[1] {
		t.Error("another table behind a shape that changed")
	}
	if changed := get(t, c, spare[:2]); changed == first || !like(changed, spare[:2]) {
		t.Errorf("the table of a shape ahead of its change: %s", tell(changed))
	}
	counts(t, c, 3, 7)
}

// P6.1, and DOC.md's third rule: what All answers is new memory.
func TestAnswersAreNew(t *testing.T) {
	c, right := New(), apart()
	got := c.All(right)
	want := slices.Clone(got)
	clear(got[:cap(got)])
	if !slices.Equal(c.All(right), want) {
		t.Error("All isn't the same behind a change of its answer")
	}
}

// P6.1: caches know nothing of each other.
func TestCachesAreApart(t *testing.T) {
	a, b := New(), New()
	s := list(round(100, 5, 5))
	one := get(t, a, s)
	counts(t, b, 0, 0)
	two := get(t, b, s)
	if one == two || tell(one) != tell(two) {
		t.Error("two caches have one table")
	}
	counts(t, a, 1, 1)
	counts(t, b, 1, 1)
}

// P6.2: however often and however asked for, nothing is made twice.
func TestNothingIsMadeTwice(t *testing.T) {
	c, right := New(), apart()
	want := c.All(right)
	for range 10 {
		for i, s := range right {
			if get(t, c, s) != want[i] {
				t.Errorf("%v: another table", s)
			}
		}
		if !slices.Equal(c.All(right), want) {
			t.Error("All: other tables")
		}
	}
	counts(t, c, int64(len(right)), int64(21*len(right)))
}
