package amount_test

import (
	"math"
	"math/big"
	"math/rand"
	"testing"

	"usance/amount"
	"usance/api"
)

// edges are numbers at which words, halves of words, limits and signs turn.
func edges() []int64 {
	list := []int64{0, math.MinInt64, math.MaxInt64}
	for _, v := range []int64{1, 2, 3, 5, 7, 10, 99, 100, 101, 360, 366, 367, 10000000, api.PPB, 1 << 31, 1 << 32, 1 << 33, 1 << 61, 1 << 62, api.MaxMoney, math.MaxInt64 - 1} {
		list = append(list, v-1, v, v+1, -v+1, -v, -v-1)
	}
	return list
}

// random are numbers of all lengths; the seed is fixed, so that a run can be told again.
func random(n int) []int64 {
	source := rand.New(rand.NewSource(1))
	list := make([]int64, n)
	for i := range list {
		list[i] = int64(source.Uint64()) >> source.Intn(64)
	}
	return list
}

// rounded is what chapter 1 calls so, reckoned by another way: twice the rest against the divisor.
func rounded(over, by *big.Int) *big.Int {
	quotient, rest := new(big.Int).QuoRem(new(big.Int).Abs(over), new(big.Int).Abs(by), new(big.Int))
	twice := rest.Lsh(rest, 1).CmpAbs(by)
	if twice > 0 || twice == 0 && quotient.Bit(0) == 1 {
		quotient.Add(quotient, big.NewInt(1))
	}
	if over.Sign()*by.Sign() < 0 {
		quotient.Neg(quotient)
	}
	return quotient
}

func product(factors ...int64) *big.Int {
	out := big.NewInt(1)
	for _, factor := range factors {
		out.Mul(out, big.NewInt(factor))
	}
	return out
}

func fit(v *big.Int) (int64, api.Errno) {
	if !v.IsInt64() {
		return 0, api.ErrOver
	}
	return v.Int64(), api.OK
}

type answer struct {
	value int64
	errno api.Errno
}

func told(value int64, errno api.Errno) answer {
	return answer{value, errno}
}

func TestAddAndSub(t *testing.T) {
	for _, c := range []struct {
		a, b     int64
		sum, sub answer
	}{
		{2, 3, answer{5, api.OK}, answer{-1, api.OK}},
		{-2, 3, answer{1, api.OK}, answer{-5, api.OK}},
		{math.MaxInt64, 0, answer{math.MaxInt64, api.OK}, answer{math.MaxInt64, api.OK}},
		{math.MaxInt64, 1, answer{0, api.ErrOver}, answer{math.MaxInt64 - 1, api.OK}},
		{math.MaxInt64, -1, answer{math.MaxInt64 - 1, api.OK}, answer{0, api.ErrOver}},
		{math.MinInt64, 1, answer{math.MinInt64 + 1, api.OK}, answer{0, api.ErrOver}},
		{math.MinInt64, -1, answer{0, api.ErrOver}, answer{math.MinInt64 + 1, api.OK}},
		{0, math.MinInt64, answer{math.MinInt64, api.OK}, answer{0, api.ErrOver}},
		{-1, math.MinInt64, answer{0, api.ErrOver}, answer{math.MaxInt64, api.OK}},
		{math.MinInt64, math.MinInt64, answer{0, api.ErrOver}, answer{0, api.OK}},
		{math.MaxInt64, math.MinInt64, answer{-1, api.OK}, answer{0, api.ErrOver}},
		// Each of both and the sum differ in every bit.
		{0x5555555555555555, 0x5555555555555555, answer{0, api.ErrOver}, answer{0, api.OK}},
	} {
		if got := told(amount.Add(c.a, c.b)); got != c.sum {
			t.Errorf("Add(%d, %d) = %v, not %v", c.a, c.b, got, c.sum)
		}
		if got := told(amount.Sub(c.a, c.b)); got != c.sub {
			t.Errorf("Sub(%d, %d) = %v, not %v", c.a, c.b, got, c.sub)
		}
	}
}

func TestAddAndSubEverywhere(t *testing.T) {
	list := append(edges(), random(200)...)
	for _, a := range list {
		for _, b := range list {
			x, y := big.NewInt(a), big.NewInt(b)
			if got, want := told(amount.Add(a, b)), told(fit(new(big.Int).Add(x, y))); got != want {
				t.Fatalf("Add(%d, %d) = %v, not %v", a, b, got, want)
			}
			if got, want := told(amount.Sub(a, b)), told(fit(new(big.Int).Sub(x, y))); got != want {
				t.Fatalf("Sub(%d, %d) = %v, not %v", a, b, got, want)
			}
		}
	}
}

func TestMulDiv(t *testing.T) {
	for _, c := range []struct {
		a, b, c int64
		want    answer
	}{
		{5, 1, 2, answer{2, api.OK}},
		{7, 1, 2, answer{4, api.OK}},
		{-5, 1, 2, answer{-2, api.OK}},
		{-7, 1, 2, answer{-4, api.OK}},
		{3, 1, -2, answer{-2, api.OK}},
		{-3, 1, -2, answer{2, api.OK}},
		{-3, -1, -2, answer{-2, api.OK}},
		{-1, 1, 2, answer{0, api.OK}},
		{1, 1, 3, answer{0, api.OK}},
		{2, 1, 3, answer{1, api.OK}},
		{0, -1, 5, answer{0, api.OK}},
		{0, 0, 0, answer{0, api.ErrZero}},
		{math.MaxInt64, math.MaxInt64, 0, answer{0, api.ErrZero}},
		{math.MaxInt64, math.MaxInt64, math.MaxInt64, answer{math.MaxInt64, api.OK}},
		{math.MinInt64, math.MinInt64, math.MinInt64, answer{math.MinInt64, api.OK}},
		{math.MinInt64, 1, 1, answer{math.MinInt64, api.OK}},
		{math.MinInt64, -1, -1, answer{math.MinInt64, api.OK}},
		{math.MinInt64, 1, -1, answer{0, api.ErrOver}},
		{math.MinInt64, -1, 1, answer{0, api.ErrOver}},
		{math.MinInt64, math.MinInt64, 1, answer{0, api.ErrOver}},
		{math.MaxInt64, 2, 1, answer{0, api.ErrOver}},
		{math.MaxInt64, 4, 4, answer{math.MaxInt64, api.OK}},
		{1 << 62, 1 << 62, 1 << 61, answer{0, api.ErrOver}},
		{1 << 62, 1 << 62, 1 << 62, answer{1 << 62, api.OK}},
		// 2^64 less a quarter, which rounding carries beyond a word.
		{8198552921648689607, 9, 4, answer{0, api.ErrOver}},
		{-8198552921648689607, 9, 4, answer{0, api.ErrOver}},
		{1, math.MaxInt64, math.MinInt64, answer{-1, api.OK}},
		{1, 1 << 62, math.MinInt64, answer{0, api.OK}},
		{3, 1 << 62, math.MinInt64, answer{-2, api.OK}},
	} {
		if got := told(amount.MulDiv(c.a, c.b, c.c)); got != c.want {
			t.Errorf("MulDiv(%d, %d, %d) = %v, not %v", c.a, c.b, c.c, got, c.want)
		}
	}
}

func mulDivByBig(a, b, c int64) (int64, api.Errno) {
	if c == 0 {
		return 0, api.ErrZero
	}
	return fit(rounded(product(a, b), big.NewInt(c)))
}

func TestMulDivEverywhere(t *testing.T) {
	list := append(edges(), random(30)...)
	for _, a := range list {
		for _, b := range list {
			for _, c := range list {
				if got, want := told(amount.MulDiv(a, b, c)), told(mulDivByBig(a, b, c)); got != want {
					t.Fatalf("MulDiv(%d, %d, %d) = %v, not %v", a, b, c, got, want)
				}
			}
		}
	}
}

// Quotients next to the bounds of int64 and of a word, with rests next to the half.
func TestMulDivAtBounds(t *testing.T) {
	for _, a := range []int64{math.MaxInt64, math.MaxInt64 - 1, math.MinInt64, math.MinInt64 + 1} {
		for b := int64(1); b <= 40; b++ {
			for c := int64(1); c <= 40; c++ {
				for _, sign := range []int64{1, -1} {
					if got, want := told(amount.MulDiv(a, b, sign*c)), told(mulDivByBig(a, b, sign*c)); got != want {
						t.Fatalf("MulDiv(%d, %d, %d) = %v, not %v", a, b, sign*c, got, want)
					}
				}
			}
		}
	}
}

func TestInterest(t *testing.T) {
	for _, c := range []struct {
		p, rate, num, den int64
		want              answer
	}{
		{100000, 50000000, 30, 360, answer{417, api.OK}},
		{-100000, 50000000, 30, 360, answer{-417, api.OK}},
		{100000, 360000000, 30, 360, answer{3000, api.OK}},
		{0, api.PPB, 10000000, 1, answer{0, api.OK}},
		{api.MaxMoney, 0, 10000000, 1, answer{0, api.OK}},
		{api.MaxMoney, api.PPB, 0, 1, answer{0, api.OK}},
		// Halves go to the even one.
		{1, 500000000, 1, 1, answer{0, api.OK}},
		{3, 500000000, 1, 1, answer{2, api.OK}},
		{5, 500000000, 1, 1, answer{2, api.OK}},
		{-3, 500000000, 1, 1, answer{-2, api.OK}},
		// Rounded twice (a year's interest first) this were 1.
		{1, 600000000, 300, 360, answer{0, api.OK}},
		{api.MaxMoney, api.PPB, 9223, 1, answer{9223 * api.MaxMoney, api.OK}},
		{api.MaxMoney, api.PPB, 9224, 1, answer{0, api.ErrOver}},
		{-api.MaxMoney, api.PPB, 9224, 1, answer{0, api.ErrOver}},
		{api.MaxMoney, api.PPB, 10000000, 1, answer{0, api.ErrOver}},
		{api.MaxMoney + 1, 1, 1, 1, answer{0, api.ErrRange}},
		{-api.MaxMoney - 1, 1, 1, 1, answer{0, api.ErrRange}},
		{1, -1, 1, 1, answer{0, api.ErrRange}},
		{1, api.PPB + 1, 1, 1, answer{0, api.ErrRange}},
		{1, 1, -1, 1, answer{0, api.ErrRange}},
		{1, 1, 10000001, 1, answer{0, api.ErrRange}},
		{1, 1, 1, 0, answer{0, api.ErrRange}},
		{1, 1, 1, -1, answer{0, api.ErrRange}},
		{1, 1, 1, 366, answer{0, api.OK}},
		{1, 1, 1, 367, answer{0, api.ErrRange}},
		{math.MinInt64, math.MinInt64, math.MinInt64, math.MinInt64, answer{0, api.ErrRange}},
	} {
		if got := told(amount.Interest(c.p, c.rate, c.num, c.den)); got != c.want {
			t.Errorf("Interest(%d, %d, %d, %d) = %v, not %v", c.p, c.rate, c.num, c.den, got, c.want)
		}
	}
}

func interestByBig(p, rate, num, den int64) (int64, api.Errno) {
	if p < -api.MaxMoney || p > api.MaxMoney || rate < 0 || rate > api.PPB || num < 0 || num > 10000000 || den < 1 || den > 366 {
		return 0, api.ErrRange
	}
	return fit(rounded(product(p, rate, num), product(1000000000, den)))
}

func TestInterestEverywhere(t *testing.T) {
	edge := edges()
	source := rand.New(rand.NewSource(2))
	one := func() int64 { return edge[source.Intn(len(edge))] }
	within := func(most int64) int64 { return source.Int63n(most+1) >> source.Intn(40) }
	for range 200000 {
		p, rate, num, den := within(api.MaxMoney), within(api.PPB), within(10000000), 1+source.Int63n(366)
		if source.Intn(2) == 0 {
			p = -p
		}
		switch source.Intn(8) {
		case 0:
			p = one()
		case 1:
			rate = one()
		case 2:
			num = one()
		case 3:
			den = one()
		}
		if got, want := told(amount.Interest(p, rate, num, den)), told(interestByBig(p, rate, num, den)); got != want {
			t.Fatalf("Interest(%d, %d, %d, %d) = %v, not %v", p, rate, num, den, got, want)
		}
	}
}

func TestMulDivBack(t *testing.T) {
	list := append(edges(), random(300)...)
	for _, a := range list {
		for _, b := range list {
			if b == 0 {
				continue
			}
			if got := told(amount.MulDiv(a, b, b)); got != (answer{a, api.OK}) {
				t.Fatalf("MulDiv(%d, %d, %d) = %v", a, b, b, got)
			}
		}
	}
}
