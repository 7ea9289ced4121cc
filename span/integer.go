package span

import (
	"math/bits"

	"facet/api"
)

// places is the number of binary places of a fixed point number: One is 2^places.
const places = 20

func divideDown(n, d int) int {
	q := n / d
	if n%d != 0 && (n < 0) != (d < 0) {
		q--
	}
	return q
}

func divideUp(n, d int) int {
	return -divideDown(-n, d)
}

// multiplyDown returns x*y/One, rounded down. The product of two fixed point
// numbers may need 81 bits; with y taken apart at One, 62 bits suffice.
func multiplyDown(x, y int) int {
	whole := divideDown(y, api.One)
	rest := y - whole*api.One
	return x*whole + divideDown(x*rest, api.One)
}

func multiplyUp(x, y int) int {
	return -multiplyDown(-x, y)
}

// root returns the square root of n * 4^more, rounded down and rounded up, for
// n from 0 to 2^60. The factor is kept apart, because the product may not fit
// into an int: the root of n comes first, then one binary place for each 4.
func root(n, more int) (down, up int) {
	if n == 0 {
		return 0, 0
	}
	down = 1 << ((bits.Len(uint(n)) + 1) / 2)
closer:
	// Newton's steps fall, from above the root, until the root is reached.
	if next := (down + n/down) / 2; next < down {
		down = next
		goto closer
	}
	rest := n - down*down
	for range more {
		down, rest = 2*down, 4*rest
		if rest > 2*down {
			rest -= 2*down + 1
			down++
		}
	}
	if rest == 0 {
		return down, down
	}
	return down, down + 1
}

// quotientRoot returns the square root of top / n^power, rounded down and
// rounded up. It divides step by step, because n^power may not fit into an int.
func quotientRoot(top, n, power int) (down, up int) {
	whole := true
	for range power {
		whole = whole && top%n == 0
		top /= n
	}
	down, up = root(top, 0)
	if !whole {
		up = down + 1
	}
	return down, up
}
