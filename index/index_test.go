package index_test

import (
	"math"
	"slices"
	"testing"

	"forerunner/api"
	"forerunner/index"
)

func made(t *testing.T, places int) *index.Index {
	t.Helper()
	x, code := index.New(places)
	if code != api.OK || x == nil {
		t.Fatalf("New(%d): %v %d", places, x, code)
	}
	return x
}

func put(t *testing.T, x *index.Index, key, n int, want api.Code) {
	t.Helper()
	if code := x.Put(key, n); code != want {
		t.Errorf("Put(%d, %d): %d, not %d", key, n, code, want)
	}
}

// putAll puts keys, each with its place in the list as its number.
func putAll(t *testing.T, x *index.Index, keys ...int) {
	t.Helper()
	for n, key := range keys {
		put(t, x, key, n, api.OK)
	}
}

func del(t *testing.T, x *index.Index, key int, want bool) {
	t.Helper()
	if got := x.Del(key); got != want {
		t.Errorf("Del(%d): %v", key, got)
	}
}

func getIs(t *testing.T, x *index.Index, key, n int, there bool) {
	t.Helper()
	if got, ok := x.Get(key); got != n || ok != there {
		t.Errorf("Get(%d): %d %v, not %d %v", key, got, ok, n, there)
	}
}

// none stands for an empty place in what lies.
const none = -1

// lies is what lies at each of the places of a table, by what it tells of its keys.
func lies(t *testing.T, x *index.Index, places int) []int {
	t.Helper()
	out := slices.Repeat([]int{none}, places)
	for _, key := range x.Keys() {
		far := x.Far(key)
		if far < 0 || far >= places {
			t.Errorf("Far(%d): %d, of %d places", key, far, places)
			continue
		}
		at := (key + far) % places
		if out[at] != none {
			t.Errorf("at %d lie both %d and %d", at, out[at], key)
		}
		out[at] = key
	}
	return out
}

func liesIs(t *testing.T, x *index.Index, want ...int) {
	t.Helper()
	if got := lies(t, x, len(want)); !slices.Equal(got, want) {
		t.Errorf("at the places lie %v, not %v", got, want)
	}
}

// notKeys are numbers that no key has.
func notKeys() []int {
	return []int{-1, -2, -8, math.MinInt, math.MinInt + 8, api.MaxKey + 1, api.MaxKey + 8, 1 << 32, 1<<32 + 3, math.MaxInt}
}

// P5.1: a table is made, keys are put and got, and told.

func TestNew(t *testing.T) {
	for places := -260; places <= 1030; places++ {
		want := api.Arg
		if slices.Contains([]int{2, 4, 8, 16, 32, 64, 128, 256}, places) {
			want = api.OK
		}
		x, code := index.New(places)
		if code != want || (x == nil) != (want != api.OK) {
			t.Errorf("New(%d): %v %d, not %d", places, x, code, want)
			continue
		}
		if x != nil && (x.Len() != 0 || len(x.Keys()) != 0) {
			t.Errorf("New(%d): %d keys: %v", places, x.Len(), x.Keys())
		}
	}
	for _, places := range []int{math.MinInt, math.MaxInt, 1 << 32, 1<<32 + 2, 1 << 62, -1 << 62} {
		if x, code := index.New(places); x != nil || code != api.Arg {
			t.Errorf("New(%d): %v %d", places, x, code)
		}
	}
}

func TestTablesAreApart(t *testing.T) {
	x, other := made(t, 4), made(t, 4)
	putAll(t, x, 1, 2)
	if other.Len() != 0 {
		t.Errorf("the other one has %v", other.Keys())
	}
	getIs(t, other, 1, 0, false)
}

func TestAnEmptyTableHasNoKey(t *testing.T) {
	for _, places := range []int{2, 4, 256} {
		x := made(t, places)
		for _, key := range append(notKeys(), 0, 1, 2, 255, 256, api.MaxKey) {
			getIs(t, x, key, 0, false)
			del(t, x, key, false)
			if far := x.Far(key); far != -1 {
				t.Errorf("Far(%d): %d", key, far)
			}
		}
		if x.Len() != 0 || len(x.Keys()) != 0 {
			t.Errorf("%d places: %d keys: %v", places, x.Len(), x.Keys())
		}
	}
}

func TestPutAndGet(t *testing.T) {
	x := made(t, 8)
	keys := []int{0, 1, api.MaxKey, api.MaxKey - 1, 13}
	numbers := []int{0, -1, math.MaxInt, math.MinInt, 7}
	for i, key := range keys {
		put(t, x, key, numbers[i], api.OK)
		if x.Len() != i+1 {
			t.Errorf("%d keys, not %d", x.Len(), i+1)
		}
		for j, k := range keys {
			if j <= i {
				getIs(t, x, k, numbers[j], true)
			} else {
				getIs(t, x, k, 0, false)
			}
		}
	}
	if got := x.Keys(); !slices.Equal(got, []int{0, 1, 13, api.MaxKey - 1, api.MaxKey}) {
		t.Errorf("Keys: %v", got)
	}
}

func TestTheKey0WithTheNumber0IsThere(t *testing.T) {
	x := made(t, 4)
	put(t, x, 0, 0, api.OK)
	getIs(t, x, 0, 0, true)
	putAll(t, x, 4, 8)
	liesIs(t, x, 0, 4, 8, none) // none of them is at its place
	put(t, x, 1, 0, api.Full)
	del(t, x, 0, true)
	getIs(t, x, 0, 0, false)
}

func TestPutOfAKeyThatIsThere(t *testing.T) {
	x := made(t, 8)
	putAll(t, x, 3, 11, 4)
	for _, n := range []int{9, 0, -5, 9} {
		put(t, x, 11, n, api.OK)
		getIs(t, x, 3, 0, true)
		getIs(t, x, 11, n, true)
		getIs(t, x, 4, 2, true)
		liesIs(t, x, none, none, none, 3, 11, 4, none, none)
		if x.Len() != 3 {
			t.Errorf("%d keys", x.Len())
		}
	}
}

func TestPutOfWhatIsNoKey(t *testing.T) {
	x := made(t, 4)
	putAll(t, x, 7, 3)
	for full := range 2 { // Arg ahead of Full
		for _, key := range notKeys() {
			put(t, x, key, 1, api.Arg)
			getIs(t, x, key, 0, false)
			del(t, x, key, false)
			if far := x.Far(key); far != -1 {
				t.Errorf("Far(%d): %d", key, far)
			}
		}
		if x.Len() != 2+full {
			t.Errorf("%d keys: %v", x.Len(), x.Keys())
		}
		getIs(t, x, 7, 0, true)
		getIs(t, x, 3, 1, true)
		x.Put(0, 5)
	}
	liesIs(t, x, 3, 0, none, 7)
}

func TestPutWhereJustOnePlaceIsEmpty(t *testing.T) {
	for _, places := range []int{2, 4, 8, 256} {
		x := made(t, places)
		for key := range places - 1 {
			put(t, x, key*3, key, api.OK)
		}
		before := lies(t, x, places)
		put(t, x, 3*places, 9, api.Full)
		put(t, x, 3*places+1, 9, api.Full)
		getIs(t, x, 3*places, 0, false)
		if got := lies(t, x, places); !slices.Equal(got, before) || x.Len() != places-1 {
			t.Errorf("%d places: %d keys: %v, not %v", places, x.Len(), got, before)
		}
		put(t, x, 0, 77, api.OK) // it is there
		getIs(t, x, 0, 77, true)
		del(t, x, 0, true)
		put(t, x, 3*places, 9, api.OK)
		getIs(t, x, 3*places, 9, true)
		put(t, x, 0, 1, api.Full)
	}
}

func TestTwoPlaces(t *testing.T) {
	x := made(t, 2)
	put(t, x, 5, 1, api.OK)
	liesIs(t, x, none, 5)
	for _, key := range []int{0, 1, 3, 4} {
		put(t, x, key, 1, api.Full)
		getIs(t, x, key, 0, false)
	}
	del(t, x, 5, true)
	put(t, x, 4, 2, api.OK)
	liesIs(t, x, 4, none)
}

func TestKeysAreRisingAndOnesOwn(t *testing.T) {
	x := made(t, 16)
	putAll(t, x, 40, 3, 17, 1000, 0, 16, api.MaxKey, 2, 18, 999)
	want := []int{0, 2, 3, 16, 17, 18, 40, 999, 1000, api.MaxKey}
	got := x.Keys()
	if !slices.Equal(got, want) {
		t.Errorf("Keys: %v, not %v", got, want)
	}
	for i := range got {
		got[i] = 5
	}
	if again := x.Keys(); !slices.Equal(again, want) {
		t.Errorf("Keys, when they were written over: %v, not %v", again, want)
	}
	del(t, x, 17, true)
	if got := x.Keys(); !slices.Equal(got, slices.DeleteFunc(want, func(key int) bool { return key == 17 })) {
		t.Errorf("Keys, without 17: %v", got)
	}
}

// P5.2: a key is deleted.

func TestDel(t *testing.T) {
	for _, c := range []struct {
		what   string
		keys   []int
		key    int
		there  bool
		behind []int // what lies where then, of 8 places
	}{
		{"the only one", []int{3}, 3, true, []int{none, none, none, none, none, none, none, none}},
		{"another one of its home", []int{3}, 11, false, []int{none, none, none, 3, none, none, none, none}},
		{"one that would lie behind", []int{3, 11}, 4, false, []int{none, none, none, 3, 11, none, none, none}},
		{"the last one of some", []int{3, 11, 4}, 4, true, []int{none, none, none, 3, 11, none, none, none}},
		{"the middle one of some", []int{3, 11, 4}, 11, true, []int{none, none, none, 3, 4, none, none, none}},
		{"the first one of some", []int{3, 11, 4}, 3, true, []int{none, none, none, 11, 4, none, none, none}},
		{"those behind are at home", []int{3, 4, 5}, 3, true, []int{none, none, none, none, 4, 5, none, none}},
		{"one behind is at home, the next one isn't", []int{3, 4, 11}, 3, true, []int{none, none, none, 11, 4, none, none, none}},
		{"all of one home", []int{2, 10, 18, 26}, 10, true, []int{none, none, 2, 18, 26, none, none, none}},
		{"two homes, one in the other", []int{2, 3, 10, 11, 18}, 2, true, []int{none, none, 10, 3, 11, 18, none, none}},
		{"up to the next empty place", []int{2, 10, 5, 13}, 2, true, []int{none, none, 10, none, none, 5, 13, none}},
		{"over the last place", []int{7, 15, 0, 23}, 7, true, []int{0, 23, none, none, none, none, none, 15}},
		{"behind the last place", []int{7, 15, 0, 23}, 15, true, []int{0, 23, none, none, none, none, none, 7}},
		{"at home behind the last place", []int{7, 0, 8}, 7, true, []int{0, 8, none, none, none, none, none, none}},
		{"one goes back over the last place", []int{6, 7, 14}, 6, true, []int{none, none, none, none, none, none, 14, 7}},
		{"all places but one", []int{1, 9, 17, 25, 33, 41, 49}, 1, true, []int{none, 9, 17, 25, 33, 41, 49, none}},
		{"all places but one, over the last", []int{4, 12, 20, 28, 36, 44, 52}, 12, true, []int{44, 52, none, none, 4, 20, 28, 36}},
	} {
		x := made(t, 8)
		putAll(t, x, c.keys...)
		if got := x.Del(c.key); got != c.there {
			t.Errorf("%s: Del(%d): %v", c.what, c.key, got)
		}
		if got := lies(t, x, 8); !slices.Equal(got, c.behind) {
			t.Errorf("%s: at the places lie %v, not %v", c.what, got, c.behind)
		}
		getIs(t, x, c.key, 0, false)
		if x.Del(c.key) {
			t.Errorf("%s: Del(%d), again: true", c.what, c.key)
		}
		left := 0
		for n, key := range c.keys {
			if key != c.key {
				getIs(t, x, key, n, true)
				left++
			}
		}
		if x.Len() != left {
			t.Errorf("%s: %d keys, not %d", c.what, x.Len(), left)
		}
	}
}

func TestWhatIsPutAgainLiesByWhatLiesThen(t *testing.T) {
	x := made(t, 8)
	putAll(t, x, 3, 11, 4)
	del(t, x, 3, true)
	put(t, x, 3, 5, api.OK)
	liesIs(t, x, none, none, none, 11, 4, 3, none, none)
	del(t, x, 4, true)
	liesIs(t, x, none, none, none, 11, 3, none, none, none)
	put(t, x, 4, 6, api.OK)
	liesIs(t, x, none, none, none, 11, 3, 4, none, none)
	getIs(t, x, 3, 5, true)
	getIs(t, x, 4, 6, true)
}

func TestAllAreDeleted(t *testing.T) {
	for _, places := range []int{2, 4, 16, 256} {
		x := made(t, places)
		for round := range 3 {
			for key := range places - 1 {
				put(t, x, key*5, round, api.OK)
			}
			for key := range places - 1 {
				del(t, x, key*5, true)
			}
			if x.Len() != 0 || len(x.Keys()) != 0 {
				t.Errorf("%d places, round %d: %d keys: %v", places, round, x.Len(), x.Keys())
			}
		}
	}
}

// P5.3: how far from its home a key lies.

func TestFar(t *testing.T) {
	x := made(t, 8)
	putAll(t, x, 3, 11, 4, 7, 15, 8, 16)
	for _, c := range []struct{ key, far int }{
		{3, 0}, {11, 1}, {4, 1}, // as the document has them: at 3, 4, 5
		{7, 0}, {15, 1}, {8, 1}, {16, 2}, // at 7, 0, 1, 2
		{0, -1}, {12, -1}, {19, -1}, {23, -1}, {-5, -1}, {3 + 1<<32, -1}, {6, -1},
	} {
		if got := x.Far(c.key); got != c.far {
			t.Errorf("Far(%d): %d, not %d", c.key, got, c.far)
		}
	}
	liesIs(t, x, 15, 8, 16, 3, 11, 4, none, 7)
}

func TestFarAsFarAsItGoes(t *testing.T) {
	for _, home := range []int{0, 1, 100, 254, 255} {
		x := made(t, api.MaxKeys)
		for far := range api.MaxKeys - 1 {
			key := home + far*api.MaxKeys
			put(t, x, key, far, api.OK)
			if got := x.Far(key); got != far {
				t.Fatalf("home %d: Far(%d): %d, not %d", home, key, got, far)
			}
		}
		put(t, x, home+255*api.MaxKeys, 0, api.Full)
		if got := x.Far(home + 255*api.MaxKeys); got != -1 {
			t.Errorf("home %d: a key that isn't there is %d far", home, got)
		}
	}
}

// P5.4: what follows.

// entry is what lies at a place of a model: nil for nothing.
type entry struct{ key, n int }

// model is a table by the document's words: what lies where.
type model []*entry

// place is the first place from the key's home on at which it, or nothing, lies.
func (m model) place(key int) int {
	for far := range m {
		at := (key%len(m) + far) % len(m)
		if m[at] == nil || m[at].key == key {
			return at
		}
	}
	panic("no place is empty")
}

func (m model) empties() int {
	n := 0
	for _, e := range m {
		if e == nil {
			n++
		}
	}
	return n
}

func (m model) put(key, n int) api.Code {
	if key < 0 || key > 1048576 {
		return api.Arg
	}
	at := m.place(key)
	if m[at] == nil && m.empties() == 1 {
		return api.Full
	}
	m[at] = &entry{key, n}
	return api.OK
}

func (m model) del(key int) bool {
	at := -1
	for i, e := range m {
		if e != nil && e.key == key {
			at = i
		}
	}
	if at < 0 {
		return false
	}
	var behind []*entry
	for i := (at + 1) % len(m); m[i] != nil; i = (i + 1) % len(m) {
		behind = append(behind, m[i])
		m[i] = nil
	}
	m[at] = nil
	for _, e := range behind {
		m.put(e.key, e.n)
	}
	return true
}

func (m model) lies() []int {
	out := slices.Repeat([]int{none}, len(m))
	for i, e := range m {
		if e != nil {
			out[i] = e.key
		}
	}
	return out
}

// noGaps holds that between a key's home and its place none is empty.
func noGaps(t *testing.T, x *index.Index, at []int) {
	t.Helper()
	for _, key := range x.Keys() {
		for far := range x.Far(key) {
			if at[(key+far)%len(at)] == none {
				t.Fatalf("%d is %d far from its home, and %d from there it is empty: %v", key, x.Far(key), far, at)
			}
		}
	}
}

// draws are numbers that look like drawn ones, but are the same each time.
type draws struct{ state uint64 }

func (d *draws) below(n int) int {
	d.state = d.state*6364136223846793005 + 1442695040888963407
	return int(d.state >> 33 % uint64(n))
}

// key is mostly one of a few homes, so that many lie far from theirs.
func (d *draws) key(places int) int {
	switch d.below(20) {
	case 0:
		return notKeys()[d.below(10)]
	case 1, 2:
		return d.below(api.MaxKey + 1)
	case 3, 4, 5, 6, 7, 8:
		return places - 1 - d.below(2) + places*d.below(5)
	}
	return d.below(2 * places)
}

func TestBesideTheModel(t *testing.T) {
	type outcome struct {
		what string
		code api.Code
		ok   bool
	}
	reached := map[outcome]int{}
	d := &draws{state: 5}
	for _, places := range []int{2, 4, 8, 32, 256} {
		x, m, last := made(t, places), make(model, places), map[int]int{}
		for step := range 3000 {
			key, n := d.key(places), d.below(1000)-500
			more := d.below(8) < 3+step/500%3*2 // it fills, and empties
			if more {
				code, want := x.Put(key, n), m.put(key, n)
				if code != want {
					t.Fatalf("%d places, step %d: Put(%d): %d, not %d", places, step, key, code, want)
				}
				if code == api.OK {
					last[key] = n
				}
				reached[outcome{what: "Put", code: code}]++
			} else {
				_, want := last[key]
				if got := x.Del(key); got != want || m.del(key) != want {
					t.Fatalf("%d places, step %d: Del(%d): %v, not %v", places, step, key, got, want)
				}
				delete(last, key)
				reached[outcome{what: "Del", ok: want}]++
			}
			at := lies(t, x, places)
			if !slices.Equal(at, m.lies()) {
				t.Fatalf("%d places, step %d: at the places lie %v, not %v", places, step, at, m.lies())
			}
			noGaps(t, x, at)
			asked := d.key(places)
			n, there := last[asked]
			getIs(t, x, asked, n, there)
			reached[outcome{what: "Get", ok: there}]++
			for key, n := range last {
				getIs(t, x, key, n, true)
			}
			if x.Len() != len(last) || len(x.Keys()) != len(last) || !slices.IsSorted(x.Keys()) {
				t.Fatalf("%d places, step %d: %d keys, not %d: %v", places, step, x.Len(), len(last), x.Keys())
			}
			if t.Failed() {
				return
			}
		}
	}
	for _, o := range []outcome{
		{"Put", api.OK, false}, {"Put", api.Arg, false}, {"Put", api.Full, false},
		{"Del", 0, true}, {"Del", 0, false}, {"Get", 0, true}, {"Get", 0, false},
	} {
		if reached[o] < 50 {
			t.Errorf("%v was told but %d times", o, reached[o])
		}
	}
}
