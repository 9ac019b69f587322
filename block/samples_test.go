package block

import (
	"fmt"
	"math"
	"math/rand"
	"slices"
	"strings"
	"testing"

	"sackbut/api"
)

// one is a Normal of one sample that has nothing but a residual.
func one(data int) api.Block {
	return api.Block{Kind: api.Normal, Rice: []int{0}, Data: []int{data}}
}

// normalOf is a Normal of residuals in one part.
func normalOf(shift int, index []int, lag, gain int, data ...int) api.Block {
	return api.Block{Kind: api.Normal, Shift: shift, Index: index, Lag: lag, Gain: gain, Rice: []int{3}, Data: data}
}

func TestSamples(t *testing.T) {
	for _, c := range []struct {
		what string
		b    api.Block
		n, d int
		want []int
	}{
		{"a Zero", api.Block{}, 3, 8, []int{0, 0, 0}},
		{"a Zero with empty lists", api.Block{Index: []int{}, Rice: []int{}, Data: []int{}}, 1, 26, []int{0}},
		{"a Const", api.Block{Kind: api.Const, Value: -5}, 2, 8, []int{-5, -5}},
		{"a Const of 0", api.Block{Kind: api.Const}, 2, 8, []int{0, 0}},
		{"a Const, the least", api.Block{Kind: api.Const, Value: -128}, 1, 8, []int{-128}},
		{"a Const, the greatest", api.Block{Kind: api.Const, Value: 127}, 1, 8, []int{127}},
		{"a Raw", api.Block{Kind: api.Raw, Data: []int{1, -128, 127}}, 3, 8, []int{1, -128, 127}},
		{"a Raw of noughts", api.Block{Kind: api.Raw, Data: []int{0, 0}}, 2, 8, []int{0, 0}},
		{"a Raw at the ends", api.Block{Kind: api.Raw, Data: []int{-1 << 25, 1<<25 - 1}}, 2, 26, []int{-1 << 25, 1<<25 - 1}},
		{"a Normal", normalOf(0, nil, 0, 0, 1, 0, -4), 3, 8, []int{1, 0, -4}},
		{"a Normal of noughts", normalOf(0, nil, 0, 0, 0), 1, 8, []int{0}},
		{"a Normal with a shift", normalOf(3, []int{}, 0, 0, 1, 0, -4), 3, 8, []int{8, 0, -32}},
		{"a Normal with an index list", normalOf(0, []int{-64, -64}, 0, 0, 5, 5, 0, 1), 4, 8, []int{5, 10, 15, 21}},
		{"a Normal with a term", normalOf(0, nil, 1, 8, 4, 0, 0), 3, 8, []int{4, 2, 1}},
		{"a term ahead of the index list", normalOf(0, []int{-64}, 1, 8, 4, 0, 0), 3, 8, []int{4, 6, 7}},
		{"a term and an index list ahead of the shift", normalOf(1, []int{-64}, 1, 8, 3, 0), 2, 8, []int{6, 8}},
		{"a greater Lag than places", normalOf(0, nil, 255, 15, 4, 5), 2, 8, []int{4, 5}},
		{"more indices than samples", normalOf(0, slices.Repeat([]int{-64}, 16), 0, 0, 4), 1, 8, []int{4}},
		{"a Normal of one", one(-1), 1, 8, []int{-1}},
		{"the greatest shift of depth 8", normalOf(7, nil, 0, 0, -1, 0), 2, 8, []int{-128, 0}},
		{"the greatest shift of depth 26", normalOf(25, nil, 0, 0, -1, 0), 2, 26, []int{-1 << 25, 0}},
	} {
		if l, e := Samples(c.b, c.n, c.d); !slices.Equal(l, c.want) || e != api.OK {
			t.Errorf("P10.1: %s: Samples of %v: %v, %d, want %v", c.what, c.b, l, e, c.want)
		}
		checkBlock(t, c.what, c.b, c.n, c.d)
	}
}

func TestTheExample(t *testing.T) {
	b, e := Plain([]int{5, 5}, 8)
	if !same(b, api.Block{Kind: api.Const, Value: 5}) || e != api.OK {
		t.Errorf("P10.1: the example: Plain: %v, %d", b, e)
	}
	if got := putBits(b, 2, 8); got != "0100000101" {
		t.Errorf("P10.1: the example: bits %s", got)
	}
}

// wrongBlocks are blocks of three samples of depth 8, one for each error.
func wrongBlocks() []api.Block {
	return []api.Block{
		{},
		{Kind: api.Raw, Data: []int{1, 2, 3}},
		{Kind: 4},
		{Kind: -1, Value: 3, Data: []int{4}},
		{Value: 1},
		{Kind: api.Raw, Data: []int{1}},
		{Kind: api.Const, Value: 1 << 40},
		{Kind: api.Normal},
		normalOf(99, []int{99}, 99, 99, 99),
		{Kind: api.Raw, Data: []int{1, 2, 1 << 40}},
	}
}

func TestACountOrADepthOutside(t *testing.T) {
	for _, b := range wrongBlocks() {
		for _, n := range countsOutside() {
			for _, d := range []int{8, 16, 26, 7, 27, math.MinInt} {
				if e := checkBlock(t, "a count outside", b, n, d); e != api.ErrRange {
					t.Fatalf("P10.1: Samples, n %d, d %d: %d", n, d, e)
				}
			}
		}
		for _, d := range depthsOutside() {
			for _, n := range []int{1, 3, 1024, 0, 1025} {
				if e := checkBlock(t, "a depth outside", b, n, d); e != api.ErrRange {
					t.Fatalf("P10.1: Samples, n %d, d %d: %d", n, d, e)
				}
			}
		}
	}
}

func TestAKindThatIsNone(t *testing.T) {
	for _, kind := range []int{4, 5, -1, -2, 255, 256, 1 << 32, 1<<32 + 1, 1<<32 + 2, math.MinInt, math.MinInt + 3, math.MaxInt} {
		for _, b := range wrongBlocks() {
			b.Kind = kind
			if e := checkBlock(t, "no kind", b, 3, 8); e != api.ErrKind {
				t.Errorf("P10.1: Samples of %v: %d", b, e)
			}
		}
	}
}

// fields are what a block may have beside its Kind, each as it may be, and
// alone.
func fields() map[string]api.Block {
	return map[string]api.Block{
		"Value":         {Value: 1},
		"Value below":   {Value: -1},
		"Shift":         {Shift: 1},
		"Shift below":   {Shift: -1},
		"Shift of many": {Shift: 1 << 40},
		"Index":         {Index: []int{0}},
		"Index of two":  {Index: []int{-64, -64}},
		"Lag":           {Lag: 1},
		"Lag below":     {Lag: -1},
		"Gain":          {Gain: 1},
		"Gain below":    {Gain: -1},
		"Part":          {Part: 1},
		"Part below":    {Part: -1},
		"Rice":          {Rice: []int{0}},
		"Data":          {Data: []int{0}},
		"Data of three": {Data: []int{0, 0, 0}},
	}
}

// with is a block with what another one has beside its Kind.
func with(b, more api.Block) api.Block {
	b.Value |= more.Value
	b.Shift |= more.Shift
	b.Lag |= more.Lag
	b.Gain |= more.Gain
	b.Part |= more.Part
	b.Index = slices.Concat(b.Index, more.Index)
	b.Rice = slices.Concat(b.Rice, more.Rice)
	b.Data = slices.Concat(b.Data, more.Data)
	return b
}

func TestAFieldThatAKindHasNot(t *testing.T) {
	for _, b := range []api.Block{
		{},
		{Kind: api.Const},
		{Kind: api.Const, Value: 7},
		{Kind: api.Raw, Data: []int{1, 2, 3}},
		normalOf(0, []int{3}, 1, 8, 1, 2, 3),
		normalOf(0, nil, 0, 0, 1, 2, 3),
	} {
		if e := checkBlock(t, "a right block", b, 3, 8); e != api.OK {
			t.Fatalf("P10.1: Samples of %v: %d", b, e)
		}
		for field, more := range fields() {
			if has(b.Kind, strings.Fields(field)[0]) {
				continue
			}
			if e := checkBlock(t, "with "+field, with(b, more), 3, 8); e != api.ErrForm {
				t.Errorf("P10.1: Samples of %v: %d", with(b, more), e)
			}
		}
	}
}

// Two fields that a kind hasn't may not make up for one another.
func TestTwoFieldsThatAKindHasNot(t *testing.T) {
	for _, b := range []api.Block{
		{Value: 1, Shift: 1},
		{Value: 1, Shift: -1},
		{Lag: 3, Gain: -3},
		{Kind: api.Const, Value: 4, Lag: 1, Gain: 8},
		{Kind: api.Raw, Data: []int{1, 2, 3}, Part: 1, Value: -1},
		{Kind: api.Const, Rice: []int{0}, Data: []int{0, 0, 0}},
	} {
		if e := checkBlock(t, "two fields", b, 3, 8); e != api.ErrForm {
			t.Errorf("P10.1: Samples of %v: %d", b, e)
		}
	}
}

func TestARawOfMoreOrFewerThanN(t *testing.T) {
	for n := 1; n <= 1024; n = 2*n + n%3 {
		for _, have := range []int{0, n - 1, n, n + 1, 2 * n, 1024, 1025} {
			want := api.ErrForm
			if have == n {
				want = api.OK
			}
			b := api.Block{Kind: api.Raw, Data: make([]int, have)}
			if e := checkBlock(t, "a Raw", b, n, 8); e != want {
				t.Errorf("P10.1: Samples of a Raw of %d, n %d: %d", have, n, e)
			}
		}
	}
}

// spoiled are Normals that aren't as they must be, of three samples.
func spoiled(d int) map[string]api.Block {
	right := normalOf(0, []int{3}, 1, 8, 1, 2, 3)
	all := map[string]api.Block{}
	add := func(what string, change func(b *api.Block)) {
		b := cloned(right)
		change(&b)
		all[what] = b
	}
	for _, n := range []int{-1, d, d + 1, 31, 32, 64, 1 << 32, math.MinInt, math.MaxInt} {
		add(fmt.Sprint("a Shift of ", n), func(b *api.Block) { b.Shift = n })
	}
	for _, n := range []int{64, -65, 128, -128, 1 << 32, math.MinInt, math.MaxInt} {
		add(fmt.Sprint("an index of ", n), func(b *api.Block) { b.Index[0] = n })
		add(fmt.Sprint("a 16th index of ", n), func(b *api.Block) { b.Index = append(make([]int, 15), n) })
	}
	for _, n := range []int{17, 18, 32, 33, 1000} {
		add(fmt.Sprint(n, " indices"), func(b *api.Block) { b.Index = make([]int, n) })
	}
	for _, x := range [][2]int{
		{0, 1}, {1, 0}, {0, 15}, {255, 0}, {-1, 1}, {1, -1}, {-1, -1}, {0, -1}, {-1, 0}, {256, 1}, {1, 16},
		{256, 16}, {1 << 32, 1 << 32}, {1<<32 + 1, 1}, {math.MinInt, 1}, {1, math.MinInt}, {math.MaxInt, math.MaxInt},
	} {
		add(fmt.Sprint("the term ", x), func(b *api.Block) { b.Lag, b.Gain = x[0], x[1] })
	}
	for _, n := range []int{0, 1, 2, 4, 5, 1025} {
		add(fmt.Sprint(n, " Data"), func(b *api.Block) { b.Data = make([]int, n) })
	}
	for _, n := range []int{1, 2, 3} {
		add(fmt.Sprint("no multiple, Part ", n), func(b *api.Block) { b.Part, b.Rice = n, make([]int, 1<<n) })
	}
	for _, n := range []int{-1, 4, 5, 63, 64, 1 << 32, math.MinInt, math.MaxInt} {
		add(fmt.Sprint("Part ", n), func(b *api.Block) { b.Part = n })
		add(fmt.Sprint("two Rice, Part ", n), func(b *api.Block) { b.Part, b.Rice = n, []int{0, 0} })
	}
	for _, n := range []int{0, 2, 3, 4, 8} {
		add(fmt.Sprint(n, " Rice"), func(b *api.Block) { b.Rice = make([]int, n) })
	}
	for _, n := range []int{-1, 25, 26, 31, 64, 1 << 32, math.MinInt, math.MaxInt} {
		add(fmt.Sprint("a Rice of ", n), func(b *api.Block) { b.Rice[0] = n })
	}
	for _, n := range []int{1 << 33, -1<<33 - 1, 1 << 40, -1 << 40, 1 << 62, math.MinInt, math.MaxInt} {
		for i := range 3 {
			add(fmt.Sprint("a residual of ", n), func(b *api.Block) { b.Data[i] = n })
		}
	}
	return all
}

func TestANormalThatIsNotAsItMustBe(t *testing.T) {
	for _, d := range []int{8, 16, 26} {
		for what, b := range spoiled(d) {
			if e := checkBlock(t, what, b, 3, d); e != api.ErrForm {
				t.Errorf("P10.1: Samples of %v: %d", b, e)
			}
		}
		for shift := range d {
			if e := checkBlock(t, "a shift", normalOf(shift, nil, 0, 0, 0, -1), 2, d); e != api.OK {
				t.Errorf("P10.1: Samples of a shift of %d, d %d: %d", shift, d, e)
			}
		}
	}
}

// Parts of eight samples, of which there are other numbers than of three.
func TestPartsOfEight(t *testing.T) {
	for part := -1; part <= 4; part++ {
		for count := range 18 {
			b := normalOf(0, nil, 0, 0, 1, 2, 3, 4, 5, 6, 7, 8)
			b.Part, b.Rice = part, make([]int, count)
			want := api.ErrForm
			if part >= 0 && part <= 3 && count == 1<<part {
				want = api.OK
			}
			if e := checkBlock(t, "parts", b, 8, 8); e != want {
				t.Errorf("P10.1: Samples, Part %d, %d Rice: %d, want %d", part, count, e, want)
			}
		}
	}
}

func TestNumbersThatAreNoSamples(t *testing.T) {
	for d := 8; d <= 26; d++ {
		half := 1 << (d - 1)
		for _, n := range []int{-half - 1, -half, half - 1, half, -2 * half, 2 * half, 1 << 40, 1 << 62, math.MinInt, math.MaxInt} {
			want := api.OK
			if n < -half || n > half-1 {
				want = api.ErrValue
			}
			for _, b := range []api.Block{
				{Kind: api.Const, Value: n},
				{Kind: api.Raw, Data: []int{n, 0, 0}},
				{Kind: api.Raw, Data: []int{0, n, 0}},
				{Kind: api.Raw, Data: []int{0, 0, n}},
			} {
				if e := checkBlock(t, "an end", b, 3, d); e != want {
					t.Errorf("P10.1: Samples of %v, d %d: %d, want %d", b, d, e, want)
				}
			}
			for shift := range d {
				if n%(1<<shift) != 0 || n/(1<<shift) > greatestResidual || n/(1<<shift) < leastResidual {
					continue
				}
				b := normalOf(shift, nil, 0, 0, 0, n/(1<<shift), 0)
				if e := checkBlock(t, "an end by a shift", b, 3, d); e != want {
					t.Errorf("P10.1: Samples of %v, d %d: %d, want %d", b, d, e, want)
				}
			}
		}
	}
}

func TestNumbersOnTheWayThatAreNone(t *testing.T) {
	for _, c := range []struct {
		what string
		b    api.Block
		want api.Errno
	}{
		{"the greatest behind the term", normalOf(0, nil, 1, 8, 64, 95, 0), api.OK},
		{"beyond behind the term", normalOf(0, nil, 1, 8, 64, 96, 0), api.ErrValue},
		{"the least behind the term", normalOf(0, nil, 1, 8, -64, -96, 0), api.OK},
		{"below behind the term", normalOf(0, nil, 1, 8, -64, -97, 0), api.ErrValue},
		{"beyond without the term", normalOf(0, nil, 1, 15, -100, 220, 0), api.OK},
		{"the greatest behind the index list", normalOf(0, []int{-64}, 0, 0, 100, 27, 0), api.OK},
		{"beyond behind the index list", normalOf(0, []int{-64}, 0, 0, 100, 28, 0), api.ErrValue},
		{"beyond, then back", normalOf(0, []int{-64}, 0, 0, 100, 28, -128), api.ErrValue},
		{"the least behind the index list", normalOf(0, []int{-64}, 0, 0, -100, -28, 0), api.OK},
		{"below behind the index list", normalOf(0, []int{-64}, 0, 0, -100, -29, 0), api.ErrValue},
		{"beyond without the index list", normalOf(0, []int{-64}, 0, 0, -100, 200, 0), api.OK},
		{"the greatest by 2", normalOf(1, []int{-64}, 0, 0, 60, 3, 0), api.OK},
		{"beyond by 2", normalOf(1, []int{-64}, 0, 0, 60, 4, 0), api.ErrValue},
		{"the least by 2", normalOf(1, []int{-64}, 0, 0, -60, -4, 0), api.OK},
		{"below by 2", normalOf(1, []int{-64}, 0, 0, -60, -5, 0), api.ErrValue},
		{"beyond by 2, then back", normalOf(1, []int{-64}, 0, 0, 60, 4, -4), api.ErrValue},
		{"beyond by 2^7 at first", normalOf(7, nil, 0, 0, 1, 0, 0), api.ErrValue},
		{"beyond by 2^7 at last", normalOf(7, nil, 0, 0, 0, 0, -2), api.ErrValue},
		{"at an end of residuals", normalOf(0, nil, 0, 0, 0, greatestResidual, 0), api.ErrValue},
		{"at the other end", normalOf(0, nil, 0, 0, 0, 0, leastResidual), api.ErrValue},
		{"all at an end, the greatest gain", normalOf(0, nil, 1, 15, greatestResidual, greatestResidual, greatestResidual), api.ErrValue},
		{"all at the other end, the greatest shift", normalOf(7, nil, 1, 15, leastResidual, leastResidual, leastResidual), api.ErrValue},
	} {
		if e := checkBlock(t, c.what, c.b, 3, 8); e != c.want {
			t.Errorf("P10.1: %s: Samples of %v: %d, want %d", c.what, c.b, e, c.want)
		}
	}
}

// What isn't as it must be comes ahead of what comes of it.
func TestFormAheadOfValue(t *testing.T) {
	for _, b := range []api.Block{
		{Kind: api.Const, Value: 128, Shift: 1},
		{Kind: api.Const, Value: 128, Data: []int{0}},
		{Kind: api.Raw, Data: []int{200, 1}},
		{Kind: api.Raw, Data: []int{200, 1, 2}, Value: 200},
		normalOf(-1, nil, 0, 0, 200, 0, 0),
		normalOf(0, nil, 1, 0, 200, 0, 0),
		normalOf(0, nil, 0, 0, 200, 0, 1<<33),
	} {
		if e := checkBlock(t, "form and value", b, 3, 8); e != api.ErrForm {
			t.Errorf("P10.1: Samples of %v: %d", b, e)
		}
	}
}

// One sample and MaxFrame of them, the least and the greatest depth.
func TestTheEndsOfCountsAndDepths(t *testing.T) {
	rnd := rand.New(rand.NewSource(1))
	for _, n := range []int{1, 2, 1023, 1024} {
		for _, d := range []int{8, 26} {
			raw := api.Block{Kind: api.Raw, Data: anySamples(rnd, n, d)}
			for _, b := range []api.Block{{}, {Kind: api.Const, Value: -1 << (d - 1)}, raw, anyNormal(rnd, n, d)} {
				if e := checkBlock(t, "an end", b, n, d); e != api.OK {
					t.Errorf("P10.1: Samples of a block of kind %d, n %d, d %d: %d", b.Kind, n, d, e)
				}
			}
		}
	}
}

func TestBlocksByTheWords(t *testing.T) {
	rnd := rand.New(rand.NewSource(2))
	for range 1500 {
		n, d := anyCount(rnd), anyDepth(rnd)
		b := anyBlock(rnd, n, d)
		if e := checkBlock(t, "a right block", b, n, d); e != api.OK {
			t.Fatalf("P10.1: Samples of %v, n %d, d %d: %d", b, n, d, e)
		}
		checkBlock(t, "of another depth", b, n, anyDepth(rnd))
		checkBlock(t, "of another count", b, anyCount(rnd), d)
	}
}

// spoil changes a number or a list of a block at random.
func spoil(rnd *rand.Rand, b *api.Block) {
	n := []int{0, 1, -1, rnd.Intn(40) - 20, rnd.Intn(1 << 34), -rnd.Intn(1 << 34), 1 << 33, 255, 16}[rnd.Intn(9)]
	lists := []*[]int{&b.Index, &b.Rice, &b.Data}
	l := lists[rnd.Intn(3)]
	switch rnd.Intn(9) {
	case 0:
		b.Kind = rnd.Intn(6) - 1
	case 1:
		b.Value = n
	case 2:
		b.Shift = n
	case 3:
		b.Lag = n
	case 4:
		b.Gain = n
	case 5:
		b.Part = n
	case 6:
		*l = append(*l, n)
	case 7:
		*l = (*l)[:rnd.Intn(len(*l)+1)]
	default:
		if len(*l) > 0 {
			(*l)[rnd.Intn(len(*l))] = n
		}
	}
}

func TestSpoiledBlocksByTheWords(t *testing.T) {
	rnd := rand.New(rand.NewSource(3))
	count := map[api.Errno]int{}
	for range 6000 {
		n, d := anyCount(rnd), anyDepth(rnd)
		b := cloned(anyBlock(rnd, n, d))
		for range 1 + rnd.Intn(2) {
			spoil(rnd, &b)
		}
		count[checkBlock(t, "a spoiled block", b, n, d)]++
	}
	for _, e := range []api.Errno{api.OK, api.ErrForm, api.ErrKind, api.ErrValue} {
		if count[e] < 100 {
			t.Errorf("P10.1: %d spoiled blocks have the error %d", count[e], e)
		}
	}
}
