package modulus_test

import (
	"math/big"
	"math/rand/v2"
	"testing"

	"cleaver/api"
	"cleaver/modulus"
)

// moduli are numbers by which rests are taken: primes and others, the least one and the greatest one.
func moduli() []uint64 {
	list := []uint64{1<<62 + 1, 1<<63 - 1, 1<<62 + 135, 1<<63 - 25, 1<<63 - 165}
	l := &modulus.Lot{}
	for range 5 {
		list = append(list, l.Prime().P)
	}
	return list
}

func great(n uint64) *big.Int { return new(big.Int).SetUint64(n) }

func TestRests(t *testing.T) {
	random := rand.New(rand.NewPCG(1, 1))
	for _, p := range moduli() {
		m := modulus.New(p)
		list := []uint64{0, 1, 2, p / 2, p/2 + 1, p - 2, p - 1}
		for range 30 {
			list = append(list, random.Uint64N(p))
		}
		same := func(what string, z uint64, wanted *big.Int) {
			t.Helper()
			if wanted.Mod(wanted, great(p)); m.Plain(z) != wanted.Uint64() || z >= p {
				t.Fatalf("%s by %d: %d, not %d", what, p, m.Plain(z), wanted)
			}
		}
		same("One", m.One, big.NewInt(1))
		for _, x := range list {
			a, power := m.Of(x), m.Powers(m.Of(x), 9)
			same("Of", a, great(x))
			same("Of a greater one", m.Of(^x), great(^x))
			for _, y := range list {
				b := m.Of(y)
				same("Times", m.Times(a, b), new(big.Int).Mul(great(x), great(y)))
				same("Plus", m.Plus(a, b), new(big.Int).Add(great(x), great(y)))
				same("Minus", m.Minus(a, b), new(big.Int).Sub(great(x), great(y)))
				same("Power", m.Power(a, y), new(big.Int).Exp(great(x), great(y), great(p)))
			}
			for n, z := range power {
				same("Powers", z, new(big.Int).Exp(great(x), big.NewInt(int64(n)), great(p)))
			}
			if inverse := new(big.Int).ModInverse(great(x), great(p)); x == 0 || great(p).ProbablyPrime(9) {
				if x == 0 {
					inverse = new(big.Int)
				}
				same("Inverse", m.Inverse(a), inverse)
			}
		}
	}
}

func TestRestOfIntegers(t *testing.T) {
	random := rand.New(rand.NewPCG(2, 1))
	for _, p := range moduli() {
		m := modulus.New(p)
		list := []api.Int{{}, {Neg: true}, {Neg: true, Abs: []uint64{0, 0}}, {Abs: []uint64{p}}, {Neg: true, Abs: []uint64{p}}, {Neg: true, Abs: []uint64{1, 0}}}
		for length := range 40 {
			c := api.Int{Neg: length%2 == 1, Abs: make([]uint64, length)}
			for i := range c.Abs {
				c.Abs[i] = random.Uint64() | -(random.Uint64() & 1)
			}
			list = append(list, c)
		}
		for _, c := range list {
			wanted := new(big.Int)
			for i := len(c.Abs) - 1; i >= 0; i-- {
				wanted.Lsh(wanted, 64).Add(wanted, great(c.Abs[i]))
			}
			if c.Neg {
				wanted.Neg(wanted)
			}
			if wanted.Mod(wanted, great(p)); m.Plain(m.Rest(c)) != wanted.Uint64() || m.Rest(c) >= p {
				t.Fatalf("the rest of %v by %d: %d, not %d", c, p, m.Plain(m.Rest(c)), wanted)
			}
		}
	}
}

func TestIsPrime(t *testing.T) {
	random := rand.New(rand.NewPCG(3, 1))
	for range 3000 {
		n := random.Uint64()>>2 | 1<<62 | 1
		if wanted := great(n).ProbablyPrime(0); modulus.IsPrime(n) != wanted {
			t.Fatalf("%d is a prime: %v", n, wanted)
		}
	}
	primes := []uint64{1<<62 + 135, 1<<63 - 25, 1<<63 - 165}
	others := []uint64{1<<63 - 1, 2147483647 * 2147483659, 2305843009213693951 * 3, 1518500213 * 4555500637, 2147494451 * 2147504911}
	for _, n := range primes {
		if !modulus.IsPrime(n) {
			t.Errorf("%d is a prime", n)
		}
	}
	for _, n := range others {
		if modulus.IsPrime(n) {
			t.Errorf("%d is no prime", n)
		}
	}
}

// A lot's numbers are told by what it starts with; its primes are ones of 63 bits, no two of the first ones the same.
func TestLot(t *testing.T) {
	first, again, other := &modulus.Lot{Last: 7}, &modulus.Lot{Last: 7}, &modulus.Lot{Last: 8}
	seen := map[uint64]int{}
	for range 1000 {
		m := first.Prime()
		if p := again.Prime().P; p != m.P || other.Prime().P == p {
			t.Fatalf("%d is told by something else", p)
		}
		if !great(m.P).ProbablyPrime(10) || m.P>>62 != 1 {
			t.Fatalf("%d is no prime from 2^62 to 2^63", m.P)
		}
		x := first.Below(m.P)
		if y := again.Below(m.P); x != y || x >= m.P {
			t.Fatalf("%d, %d below %d", x, y, m.P)
		}
		other.Below(m.P)
		seen[m.P]++
		seen[x]++
	}
	if len(seen) != 2000 {
		t.Errorf("of 2000 numbers %d are unlike", len(seen))
	}
}
