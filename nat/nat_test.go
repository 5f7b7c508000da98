package nat_test

import (
	"math"
	"math/big"
	"slices"
	"testing"

	"cleaver/api"
	"cleaver/nat"
)

// P1.1

func TestNorm(t *testing.T) {
	for _, c := range []struct{ a, plain []uint64 }{
		{nil, nil}, {[]uint64{}, nil}, {[]uint64{0}, nil}, {[]uint64{0, 0, 0}, nil},
		{[]uint64{7}, []uint64{7}}, {[]uint64{7, 0}, []uint64{7}}, {[]uint64{0, 7, 0, 0}, []uint64{0, 7}},
		{[]uint64{0, 0, most}, []uint64{0, 0, most}},
	} {
		if plain := nat.Norm(c.a); !slices.Equal(plain, c.plain) {
			t.Errorf("Norm(%v): %v", c.a, plain)
		}
	}
}

func TestCmp(t *testing.T) {
	for _, c := range []struct {
		a, b []uint64
		is   int
	}{
		{nil, nil, 0}, {nil, []uint64{0, 0}, 0}, {[]uint64{1}, nil, 1}, {[]uint64{0}, []uint64{1}, -1},
		{[]uint64{5, 0, 0}, []uint64{5}, 0}, {[]uint64{most}, []uint64{0, 1}, -1}, {[]uint64{0, 1, 0}, []uint64{most}, 1},
		{[]uint64{1, 2}, []uint64{2, 1}, 1}, {[]uint64{1, 2}, []uint64{2, 2}, -1}, {[]uint64{1 << 63}, []uint64{1}, 1},
	} {
		if is := nat.Cmp(c.a, c.b); is != c.is {
			t.Errorf("Cmp(%v, %v): %d", c.a, c.b, is)
		}
	}
	pairs(func(a, b []uint64) {
		if is := nat.Cmp(a, b); is != value(a).Cmp(value(b)) {
			t.Errorf("Cmp(%x, %x): %d", a, b, is)
		}
	})
}

func TestBits(t *testing.T) {
	for _, c := range []struct {
		a  []uint64
		is int
	}{
		{nil, 0}, {[]uint64{0, 0}, 0}, {[]uint64{1}, 1}, {[]uint64{2}, 2}, {[]uint64{3, 0}, 2},
		{[]uint64{most}, 64}, {[]uint64{0, 1}, 65}, {[]uint64{0, 4, 0, 0}, 67}, {[]uint64{0, 0, 1 << 63}, 192},
	} {
		if is := nat.Bits(c.a); is != c.is {
			t.Errorf("Bits(%v): %d", c.a, is)
		}
	}
	pairs(func(a, b []uint64) {
		if is := nat.Bits(a); is != value(a).BitLen() {
			t.Errorf("Bits(%x): %d", a, is)
		}
	})
}

// P1.2

func TestAdd(t *testing.T) {
	pairs(func(a, b []uint64) {
		want(t, "Add", nat.Add(a, b), new(big.Int).Add(value(a), value(b)))
	})
}

func TestMul(t *testing.T) {
	pairs(func(a, b []uint64) {
		want(t, "Mul", nat.Mul(a, b), new(big.Int).Mul(value(a), value(b)))
	})
}

// Great factors of all shapes: beside the limbs also how unlike long they are turns how they are parted.
func TestMulGreat(t *testing.T) {
	m := maker(2)
	for _, n := range []int{64, 100, 1000, 4096} {
		for _, k := range []int{1, 63, 64, n/2 - 1, n / 2, n/2 + 1, n - 1, n} {
			a, b := m.some(n), m.some(k)
			want(t, "Mul", nat.Mul(a, b), new(big.Int).Mul(value(a), value(b)))
			want(t, "Mul", nat.Mul(b, a), new(big.Int).Mul(value(a), value(b)))
		}
	}
}

func TestSub(t *testing.T) {
	pairs(func(a, b []uint64) {
		left, e := nat.Sub(a, b)
		if value(a).Cmp(value(b)) < 0 {
			if e != api.ErrArg || left != nil {
				t.Errorf("Sub(%x, %x): %x, %v", a, b, left, e)
			}
			return
		}
		if e != api.OK {
			t.Errorf("Sub(%x, %x): %v", a, b, e)
		}
		want(t, "Sub", left, new(big.Int).Sub(value(a), value(b)))
	})
}

func TestDiv(t *testing.T) {
	pairs(func(a, b []uint64) { checkDiv(t, a, b) })
	m := maker(3)
	for range 2000 {
		b := m.some(2 + int(m.bits()%3))
		q := m.some(1 + int(m.bits()%4))
		product := nat.Mul(b, q)
		checkDiv(t, product, b)
		checkDiv(t, nat.Add(product, []uint64{1}), b)
		if less, e := nat.Sub(product, []uint64{1}); e == api.OK {
			checkDiv(t, less, b)
		}
	}
	checkDiv(t, m.some(2000), m.some(777))
}

// Limbs of the quotient that are guessed too great, by the ends alone, and by three limbs as well.
func TestDivGuesses(t *testing.T) {
	const half = 1 << 63
	for _, c := range []struct{ a, b []uint64 }{
		{[]uint64{0, 0, half, half - 1}, []uint64{1, 0, half}},
		{[]uint64{3, 0, half}, []uint64{1, 0, 1 << 61}},
		{[]uint64{0, most - 1, half}, []uint64{most, half}},
		{[]uint64{0, 0, half}, []uint64{most, half}},
		{[]uint64{0, 0, 0, 1}, []uint64{most, most}},
		{[]uint64{most, most, most, most}, []uint64{1, most}},
		{[]uint64{0, most, most - 1, most}, []uint64{most, most}},
		{[]uint64{0, 0, 1 << 32}, []uint64{most, 1<<32 - 1}},
	} {
		checkDiv(t, c.a, c.b)
	}
}

func checkDiv(t *testing.T, a, b []uint64) {
	t.Helper()
	quotient, rest, e := nat.Div(a, b)
	if value(b).Sign() == 0 {
		if e != api.ErrZero || quotient != nil || rest != nil {
			t.Errorf("Div(%x, %x): %x, %x, %v", a, b, quotient, rest, e)
		}
		return
	}
	if e != api.OK {
		t.Errorf("Div(%x, %x): %v", a, b, e)
	}
	q, r := new(big.Int).QuoRem(value(a), value(b), new(big.Int))
	want(t, "Div", quotient, q)
	want(t, "Div's rest", rest, r)
}

// P1.3

func TestShl(t *testing.T) {
	m := maker(4)
	for _, n := range []int{0, 1, 31, 63, 64, 65, 127, 128, 1000, 1<<18 - 1, 1 << 18} {
		for _, a := range [][]uint64{nil, {0, 0}, {1}, {most, 0}, {0, 1 << 63}, m.some(5), m.some(70)} {
			raised, e := nat.Shl(a, n)
			if e != api.OK {
				t.Errorf("Shl by %d: %v", n, e)
			}
			want(t, "Shl", raised, new(big.Int).Lsh(value(a), uint(n)))
		}
	}
	for _, n := range []int{-1, 1<<18 + 1, math.MinInt, math.MaxInt} {
		for _, a := range [][]uint64{nil, {0}, {1}, {1, 2, 0}} {
			if raised, e := nat.Shl(a, n); raised != nil || e != api.ErrArg {
				t.Errorf("Shl(%v, %d): %v, %v", a, n, raised, e)
			}
		}
	}
}

func TestShr(t *testing.T) {
	m := maker(5)
	for _, n := range []int{math.MinInt, -64, -1, 0, 1, 31, 63, 64, 65, 127, 128, 129, 300, 1 << 18, 1<<18 + 1, math.MaxInt} {
		for _, a := range [][]uint64{nil, {0, 0}, {1}, {most, 0}, {0, 1 << 63}, {most, most, 0, 0}, m.some(5), m.some(70)} {
			down := min(max(n, 0), 1<<20)
			want(t, "Shr", nat.Shr(a, n), new(big.Int).Rsh(value(a), uint(down)))
		}
	}
}
