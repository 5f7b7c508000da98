package lattice_test

import (
	"fmt"
	"math/big"
	"math/rand/v2"
	"slices"
	"strings"
	"testing"

	"cleaver/api"
)

const most = ^uint64(0)

// value is an integer as the library has it; the tests hold answers against that.
func value(a api.Int) *big.Int {
	words := make([]big.Word, len(a.Abs))
	for i, limb := range a.Abs {
		words[i] = big.Word(limb)
	}
	v := new(big.Int).SetBits(words)
	if a.Neg {
		v.Neg(v)
	}
	return v
}

// of is the plain integer of a value.
func of(v *big.Int) api.Int {
	a := api.Int{Neg: v.Sign() < 0, Abs: make([]uint64, len(v.Bits()))}
	for i, word := range v.Bits() {
		a.Abs[i] = uint64(word)
	}
	return a
}

// small is the plain integer of a number.
func small(n int) api.Int { return of(big.NewInt(int64(n))) }

// sameInt tells that two integers stand there alike, limb by limb.
func sameInt(a, b api.Int) bool { return a.Neg == b.Neg && slices.Equal(a.Abs, b.Abs) }

// same tells that two rows stand there alike, limb by limb.
func same(a, b []api.Int) bool { return slices.EqualFunc(a, b, sameInt) }

// alike: are the lists the same?
func alike(a, b [][]api.Int) bool { return slices.EqualFunc(a, b, same) }

// row is the list of numbers.
func row(l ...int) []api.Int {
	a := make([]api.Int, len(l))
	for i, n := range l {
		a[i] = small(n)
	}
	return a
}

// rows are lists of numbers.
func rows(l ...[]int) [][]api.Int {
	var all [][]api.Int
	for _, r := range l {
		all = append(all, row(r...))
	}
	return all
}

// sized are so many rows of so many noughts.
func sized(m, n int) [][]api.Int {
	l := make([][]api.Int, m)
	for i := range l {
		l[i] = make([]api.Int, n)
	}
	return l
}

// unit are n rows of n numbers, the unit matrix's.
func unit(n int) [][]api.Int {
	l := sized(n, n)
	for i := range l {
		l[i][i] = small(1)
	}
	return l
}

func values(a []api.Int) []*big.Int {
	z := make([]*big.Int, len(a))
	for i, c := range a {
		z[i] = value(c)
	}
	return z
}

// norm is a list, each number plain.
func norm(a []api.Int) []api.Int {
	z := make([]api.Int, len(a))
	for i, v := range values(a) {
		z[i] = of(v)
	}
	return z
}

func normAll(l [][]api.Int) [][]api.Int {
	z := make([][]api.Int, len(l))
	for i, a := range l {
		z[i] = norm(a)
	}
	return z
}

// plus is a and so many times b.
func plus(a []api.Int, n *big.Int, b []api.Int) []api.Int {
	z, y := values(a), values(b)
	for i, v := range z {
		v.Add(v, y[i].Mul(y[i], n))
	}
	list := make([]api.Int, len(z))
	for i, v := range z {
		list[i] = of(v)
	}
	return list
}

// What the tests hold answers against: the document's words, by the library's fractions.

func fractions(a []api.Int) []*big.Rat {
	z := make([]*big.Rat, len(a))
	for i, v := range values(a) {
		z[i] = new(big.Rat).SetInt(v)
	}
	return z
}

func dotOf(a, b []*big.Rat) *big.Rat {
	sum := new(big.Rat)
	for i, v := range a {
		sum.Add(sum, new(big.Rat).Mul(v, b[i]))
	}
	return sum
}

// strip is Dot of each stripped row with itself, and for each row all m ahead; false: nothing is left of a row.
func strip(l [][]api.Int) (lengths []*big.Rat, m [][]*big.Rat, ok bool) {
	var stripped [][]*big.Rat
	for _, a := range l {
		whole, s, shares := fractions(a), fractions(a), []*big.Rat{}
		for j, other := range stripped {
			share := new(big.Rat).Quo(dotOf(whole, other), lengths[j])
			for i, v := range other {
				s[i].Sub(s[i], new(big.Rat).Mul(share, v))
			}
			shares = append(shares, share)
		}
		length := dotOf(s, s)
		if length.Sign() == 0 {
			return nil, nil, false
		}
		stripped, lengths, m = append(stripped, s), append(lengths, length), append(m, shares)
	}
	return lengths, m, true
}

// mayBe: is it a basis?
func mayBe(l [][]api.Int) bool {
	for _, a := range l {
		if len(l) > 64 || len(a) > 64 || len(a) != len(l[0]) {
			return false
		}
	}
	_, _, ok := strip(l)
	return ok
}

// isReduced goes by the document's words; l is a basis.
func isReduced(l [][]api.Int) bool {
	lengths, m, _ := strip(l)
	for i := range l {
		for _, share := range m[i] {
			if share.Cmp(big.NewRat(1, 2)) > 0 || share.Cmp(big.NewRat(-1, 2)) < 0 {
				return false
			}
		}
		if i > 0 {
			least := new(big.Rat).Mul(m[i][i-1], m[i][i-1])
			least.Sub(big.NewRat(3, 4), least)
			if lengths[i].Cmp(least.Mul(least, lengths[i-1])) < 0 {
				return false
			}
		}
	}
	return true
}

// gramOf is the determinant of all Dots, by taking rows away from one another.
func gramOf(l [][]api.Int) *big.Int {
	var m [][]*big.Rat
	for _, a := range l {
		var dots []*big.Rat
		for _, b := range l {
			dots = append(dots, dotOf(fractions(a), fractions(b)))
		}
		m = append(m, dots)
	}
	product := big.NewRat(1, 1)
	for at := range m {
		from := slices.IndexFunc(m[at:], func(r []*big.Rat) bool { return r[at].Sign() != 0 })
		if from < 0 {
			return new(big.Int)
		}
		if from > 0 {
			m[at], m[at+from] = m[at+from], m[at]
			product.Neg(product)
		}
		product.Mul(product, m[at][at])
		for _, r := range m[at+1:] {
			q := new(big.Rat).Quo(r[at], m[at][at])
			for i, v := range m[at] {
				r[i].Sub(r[i], new(big.Rat).Mul(q, v))
			}
		}
	}
	return product.Num()
}

// timesOf are the fractions, one a row, of which so many of the rows make v; false: there are none. l is a basis.
func timesOf(l [][]api.Int, v []api.Int) ([]*big.Rat, bool) {
	var equations [][]*big.Rat // one for each number of v
	for i, sum := range fractions(v) {
		var e []*big.Rat
		for _, a := range l {
			e = append(e, new(big.Rat).SetInt(value(a[i])))
		}
		equations = append(equations, append(e, sum))
	}
	for at := range l {
		from := slices.IndexFunc(equations[at:], func(e []*big.Rat) bool { return e[at].Sign() != 0 })
		equations[at], equations[at+from] = equations[at+from], equations[at]
		first := new(big.Rat).Set(equations[at][at])
		for _, x := range equations[at] {
			x.Quo(x, first)
		}
		for k, e := range equations {
			if k == at {
				continue
			}
			q := new(big.Rat).Set(e[at])
			for i, x := range equations[at] {
				e[i].Sub(e[i], new(big.Rat).Mul(q, x))
			}
		}
	}
	times := make([]*big.Rat, len(l))
	for k, e := range equations {
		if k < len(l) {
			times[k] = e[len(l)]
		} else if e[len(l)].Sign() != 0 {
			return nil, false
		}
	}
	return times, true
}

// wholeTimesOf are these, if all are integers.
func wholeTimesOf(l [][]api.Int, v []api.Int) ([]api.Int, bool) {
	times, ok := timesOf(l, v)
	if !ok {
		return nil, false
	}
	var z []api.Int
	for _, x := range times {
		if !x.IsInt() {
			return nil, false
		}
		z = append(z, of(x.Num()))
	}
	return z, true
}

// areIn: is each row of others in the lattice of l?
func areIn(l, others [][]api.Int) bool {
	return !slices.ContainsFunc(others, func(v []api.Int) bool {
		_, ok := wholeTimesOf(l, v)
		return !ok
	})
}

// numbers are integers at which something turns, some of them not plain.
func numbers() []api.Int {
	return []api.Int{
		{}, {Neg: true}, {Abs: []uint64{0}}, {Neg: true, Abs: []uint64{0, 0}}, small(1), small(-1), {Abs: []uint64{1, 0}}, {Neg: true, Abs: []uint64{1, 0, 0}},
		small(2), small(-3), small(6), {Neg: true, Abs: []uint64{4, 0}}, {Abs: []uint64{1 << 63}}, {Abs: []uint64{most}}, {Neg: true, Abs: []uint64{most}},
		{Abs: []uint64{0, 1}}, {Neg: true, Abs: []uint64{0, 1}}, {Neg: true, Abs: []uint64{1, 1, 0}}, {Abs: []uint64{most, most}}, {Neg: true, Abs: []uint64{5, 0, most}},
	}
}

// maker makes rows, always the same ones.
type maker struct{ *rand.Rand }

func newMaker(seed uint64) maker { return maker{rand.New(rand.NewPCG(seed, 0))} }

// great is an integer of up to so many bits, of any sign.
func (m maker) great(bits int) *big.Int {
	v := new(big.Int)
	for range bits/64 + 1 {
		v.Lsh(v, 64).Or(v, new(big.Int).SetUint64(m.Uint64()))
	}
	v.Rsh(v, uint(64-bits%64))
	if m.IntN(2) == 1 {
		v.Neg(v)
	}
	return v
}

// some are so many rows of so many numbers of up to so many bits.
func (m maker) some(n, columns, bits int) [][]api.Int {
	l := sized(n, columns)
	for _, a := range l {
		for i := range a {
			a[i] = of(m.great(bits))
		}
	}
	return l
}

// edges are rows of numbers at which something turns.
func (m maker) edges(n, columns int) [][]api.Int {
	l, list := sized(n, columns), numbers()
	for _, a := range l {
		for i := range a {
			a[i] = list[m.IntN(len(list))]
		}
	}
	return l
}

// hidden is the lattice of the unit matrix, with a great number in each row but the first one: such ones hide short sums.
func (m maker) hidden(n, bits int) [][]api.Int {
	l := unit(n)
	for i := range l {
		l[i][0] = of(m.great(bits))
	}
	l[0][0] = of(new(big.Int).Or(m.great(bits), big.NewInt(1)))
	return l
}

// steps are rows of which each stripped one is shorter than the one ahead, by as much as it may be, and all m are 1/2 or -1/2.
func (m maker) steps(n int) [][]api.Int {
	l, length := sized(n, n), big.NewInt(1<<50)
	for i := range l {
		for _, a := range l[i:] {
			a[i] = of(new(big.Int).Rsh(length, 1))
			if m.IntN(2) == 1 {
				a[i].Neg = true
			}
		}
		l[i][i] = of(length)
		length = new(big.Int).Quo(length.Mul(length, big.NewInt(8661)), big.NewInt(10000))
	}
	return l
}

// mixed is another basis of the same lattice: rows are added to one another.
func (m maker) mixed(l [][]api.Int, often, bits int) [][]api.Int {
	z := normAll(l)
	for range often {
		i, k := m.IntN(len(z)), m.IntN(len(z))
		if i != k {
			z[i] = plus(z[i], m.great(bits), z[k])
		}
	}
	return z
}

// unplain are rows whose numbers have noughts behind them.
func (m maker) unplain(l [][]api.Int) [][]api.Int {
	z := sized(len(l), 0)
	for i, a := range l {
		for _, c := range a {
			z[i] = append(z[i], api.Int{Neg: c.Neg || len(c.Abs) == 0 && m.IntN(2) == 1, Abs: append(slices.Clone(c.Abs), make([]uint64, m.IntN(3))...)})
		}
	}
	return z
}

// each calls f with all lists of n numbers from low to high.
func each(n, low, high int, f func(l []int)) {
	l := slices.Repeat([]int{low}, n)
	for {
		f(l)
		at := slices.IndexFunc(l, func(c int) bool { return c < high })
		if at < 0 {
			return
		}
		l[at]++
		for i := range l[:at] {
			l[i] = low
		}
	}
}

// fewNumbers calls f with all lists of few rows of few small numbers, be they a basis or not.
func fewNumbers(f func(l [][]api.Int)) {
	f(nil)
	for _, c := range []struct{ rows, columns, low, high int }{{1, 0, 0, 0}, {2, 0, 0, 0}, {1, 1, -3, 3}, {1, 2, -3, 3}, {1, 3, -1, 2}, {2, 1, -2, 2}, {2, 2, -3, 3}, {2, 3, -1, 2}, {3, 2, -1, 1}, {3, 3, -1, 1}} {
		each(c.rows*c.columns, c.low, c.high, func(l []int) {
			all := make([][]api.Int, c.rows)
			for i := range all {
				all[i] = row(l[i*c.columns : (i+1)*c.columns]...)
			}
			f(all)
		})
	}
}

// some calls f with many lists of rows, most of them bases; most are far from reduced.
func some(f func(l [][]api.Int)) {
	m := newMaker(1)
	for range 60 {
		n := 1 + m.IntN(5)
		f(m.edges(n, n+m.IntN(3)))
		f(m.some(n, n+m.IntN(3), 1+m.IntN(200)))
		f(m.some(n, max(n-1, 1), 1+m.IntN(100)))
	}
	for _, n := range []int{2, 3, 4, 6, 8} {
		for range 8 {
			f(m.hidden(n, 1+m.IntN(40*n)))
			f(m.unplain(m.mixed(unit(n), 3*n, 20)))
			f(m.mixed(m.steps(n), 2*n, 20))
			f(m.mixed(m.some(n, n+2, 5), 2*n, 40))
			l := m.mixed(m.some(n-1, n+1, 10), n, 30)
			f(slices.Insert(l, m.IntN(n), plus(l[0], m.great(30), l[n-2])))
		}
	}
}

// bases calls f with those that are bases.
func bases(f func(l [][]api.Int)) {
	all := func(l [][]api.Int) {
		if mayBe(l) {
			f(l)
		}
	}
	fewNumbers(all)
	some(all)
}

// noBases are lists of rows that are no basis by their number, their lengths, or their sums.
func noBases() [][][]api.Int {
	great := api.Int{Neg: true, Abs: []uint64{most, most, most}}
	return [][][]api.Int{
		{nil}, {{}}, {{}, {}}, sized(1, 1), sized(1, 64), {{{Neg: true}, {Abs: []uint64{0, 0}}}}, rows([]int{1}, []int{2}), rows([]int{0}, []int{1}), rows([]int{1}, []int{0}),
		rows([]int{1, 2}, []int{2, 4}), rows([]int{2, 4}, []int{3, 6}), rows([]int{0, 0}, []int{1, 1}), rows([]int{1, 1}, []int{0, 0}), rows([]int{1, 0}, []int{0, 1}, []int{1, 1}), rows([]int{1, 0, 0}, []int{0, 1, 0}, []int{3, -5, 0}),
		rows([]int{1, 2, 3}, []int{1, 2, 3}, []int{0, 0, 1}), rows([]int{1, 2, 3}, []int{-1, -2, -3}), rows([]int{2, 0, 0}, []int{0, 2, 0}, []int{1, 1, 0}), {{great, {Abs: []uint64{2}}}, {{Neg: true, Abs: []uint64{0, most, most, most}}, {Abs: []uint64{0, 2}}}},
		rows([]int{1, 2}, []int{1}), rows([]int{1}, []int{1, 2}), rows([]int{1, 0}, nil), {nil, row(1)}, {row(1, 0), row(0, 1, 0)}, {row(1, 0, 0), row(0, 1)}, append(unit(63), row(1)), append(unit(64)[:63], make([]api.Int, 63)),
		sized(1, 65), {append(row(1), make([]api.Int, 64)...)}, unit(65), unit(65)[:2], unit(65)[:64], append(unit(64), make([]api.Int, 64)), sized(65, 0), sized(1000, 0), unit(200)[:1], append(unit(64), unit(64)...),
	}
}

// text tells the numbers of a row; those that are not plain stand there limb by limb.
func text(a []api.Int) string {
	var all []string
	for _, c := range a {
		if v := value(c); sameInt(c, of(v)) {
			all = append(all, v.String())
		} else {
			all = append(all, fmt.Sprint(c))
		}
	}
	return "[" + strings.Join(all, " ") + "]"
}

// asked is a call, and what was handed to it. It is told only when a test fails.
type asked struct {
	name   string
	handed []any
}

func said(name string, handed ...any) asked { return asked{name, handed} }

func (a asked) String() string {
	all := []string{a.name}
	for _, h := range a.handed {
		switch x := h.(type) {
		case [][]api.Int:
			for _, r := range x {
				all = append(all, text(r))
			}
		case []api.Int:
			all = append(all, text(x))
		case api.Int:
			all = append(all, text([]api.Int{x}))
		default:
			all = append(all, fmt.Sprint(x))
		}
	}
	return strings.Join(all, " ")
}

// wantInt fails, unless a call answered that integer, limb by limb, and no error.
func wantInt(t *testing.T, what asked, a api.Int, e api.Errno, wanted *big.Int) {
	t.Helper()
	if e != api.OK || !sameInt(a, of(wanted)) {
		t.Fatalf("%s: %s, %v, not %s", what, text([]api.Int{a}), e, wanted)
	}
}
