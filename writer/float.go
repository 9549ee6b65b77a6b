package writer

import (
	"math"
	"strconv"
	"strings"

	"hornbeam/api"
)

// Powers of ten between which a float is written without one.
const (
	leastPower    = -4
	greatestPower = 14
)

// Float writes the float of some bits.
func Float(bits uint64) (string, api.Errno) {
	f := math.Float64frombits(bits)
	if math.IsNaN(f) || math.IsInf(f, 0) {
		return "", api.ErrIntFloat
	}
	sign := ""
	if math.Signbit(f) {
		sign = "-"
	}
	digits, power := shortest(math.Abs(f))
	return sign + pointed(digits, power), api.OK
}

// shortest are the digits that tell a float, and the power of ten of the first
// of them.
func shortest(f float64) (string, int) {
	digits, exponent, _ := strings.Cut(strconv.FormatFloat(f, 'e', -1, 64), "e")
	power, _ := strconv.Atoi(exponent)
	return strings.Replace(digits, ".", "", 1), power
}

func pointed(digits string, power int) string {
	switch {
	case power < leastPower || power > greatestPower:
		return digits[:1] + "." + orNought(digits[1:]) + "e" + strconv.Itoa(power)
	case power < 0:
		return "0." + strings.Repeat("0", -power-1) + digits
	}
	digits += strings.Repeat("0", max(0, power+1-len(digits)))
	return digits[:power+1] + "." + orNought(digits[power+1:])
}

func orNought(digits string) string {
	if digits == "" {
		return "0"
	}
	return digits
}
