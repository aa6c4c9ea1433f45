// Package sum is layer 1: see shared/doc/01-sum.md.
package sum

const (
	// modulus is the greatest prime below 65536. Two bytes never differ by it, so one that is changed always shows.
	modulus = 65521
	// half parts a sum into its low and its high number.
	half = 65536
	// maxWindow is the longest window that Roll knows.
	maxWindow = modulus - 1
)

// Of is the sum of bytes.
func Of(b []byte) uint32 { return Go(1, b) }

// Go is the sum of bytes that stand behind others, of the sum of those.
func Go(sum uint32, b []byte) uint32 {
	low, high := parts(sum)
	for i := range len(b) {
		low = (low + uint32(b[i])) % modulus
		high = (high + low) % modulus
	}
	return whole(low, high)
}

// Roll is the sum of a window that goes on by a byte.
func Roll(sum uint32, n int, out, in byte) uint32 {
	low, high := parts(sum)
	// What is taken away is less than what is added ahead of it: unsigned numbers must not go below 0.
	low = (low + uint32(in) + modulus - uint32(out)) % modulus
	gone := (1 + window(n)*uint32(out)) % modulus
	high = (high + low + modulus - gone) % modulus
	return whole(low, high)
}

// parts are the low and the high number of a sum. Any sum may be handed in, so either may be the modulus or more.
func parts(sum uint32) (low, high uint32) {
	return sum % half % modulus, sum / half % modulus
}

// whole is the sum of a low and a high number.
func whole(low, high uint32) uint32 { return high*half + low }

// window is how long a window counts: 0, if Roll does not know its length.
func window(n int) uint32 {
	if n < 0 || n > maxWindow {
		return 0
	}
	return uint32(n)
}
