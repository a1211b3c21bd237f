// Package periodic makes curves from functions of ticks, for the layers whose results are described by their values.
package periodic

import (
	"netcalculus/api"
	"netcalculus/curve"
)

// Values gives the value of f, which is valid, at each tick from 0 on. Ticks may be greater than MaxTime, as long as the value is less than Infinite.
func Values(f api.Curve) func(t int) int {
	number := len(f.Values)
	return func(t int) int {
		if t < number {
			return f.Values[t]
		}
		// An infinite curve has the Increment 0, so that its value stays Infinite.
		periods := (t-number)/f.Period + 1
		return f.Values[t-periods*f.Period] + periods*f.Increment
	}
}

// Curve returns the normal form of the curve with the values that value gives, or ErrLimit if this form is not valid. The values do not decrease; from start on they grow by the same in each period, or are all Infinite. They are asked for up to two periods behind start.
func Curve(start, period int, value func(t int) int) (api.Curve, api.Errno) {
	period = leastPeriod(start, period, value)
	increment := value(start+period) - value(start)
	for start > 0 && value(start-1+period)-value(start-1) == increment {
		start--
	}
	// Before anything is listed: start may be far behind the limits.
	if start+period > api.MaxValues {
		return api.Curve{}, api.ErrLimit
	}
	f := api.Curve{Values: make([]int, start+period), Period: period, Increment: increment}
	for t := range f.Values {
		f.Values[t] = value(t)
	}
	if !curve.Valid(f) {
		return api.Curve{}, api.ErrLimit
	}
	return f, api.OK
}

// FromZero returns the normal form of the curve that is 0 at the tick 0, and has the values that value gives at all others, as Curve does. It may be asked for with a start that is negative.
func FromZero(start, period int, value func(t int) int) (api.Curve, api.Errno) {
	return Curve(max(start, 1), period, func(t int) int {
		if t == 0 {
			return 0
		}
		return value(t)
	})
}

// Settled returns the normal form of the curve with the values that value gives, as Curve does. In the long run the values grow by growth in each period, as soon as none of the curves that they are taken from overtakes another one any more. If one is still to be overtaken at start, which is at least MaxValues, all values up to there would have to be listed. As the other one comes nearer with each period, the first period behind start shows this.
func Settled(start, period, growth int, value func(t int) int) (api.Curve, api.Errno) {
	for t := start; t < start+period; t++ {
		if value(t+period) != Plus(value(t), growth) {
			return api.Curve{}, api.ErrLimit
		}
	}
	return Curve(start, period, value)
}

// Growth returns by how much f, which is in normal form, grows in a multiple of its Period: Infinite, if it is not finite, since it then exceeds every other curve.
func Growth(f api.Curve, period int) int {
	if !curve.Finite(f) {
		return api.Infinite
	}
	return period / f.Period * f.Increment
}

// Plus returns the sum of two values.
func Plus(a, b int) int {
	if a == api.Infinite || b == api.Infinite {
		return api.Infinite
	}
	return a + b
}

// Difference returns what is left of the value a when b is taken away: never less than 0, and nothing if b is Infinite.
func Difference(a, b int) int {
	if b == api.Infinite {
		return 0
	}
	if a == api.Infinite {
		return api.Infinite
	}
	return max(0, a-b)
}

// Common returns the least common multiple of two positive numbers.
func Common(a, b int) int {
	divisor, rest := a, b
	for rest != 0 {
		divisor, rest = rest, divisor%rest
	}
	return a / divisor * b
}

// leastPeriod returns the least number of ticks after which the values have always grown by the same, if from start on they have after known ticks. One known period stands for all ticks behind it.
func leastPeriod(start, known int, value func(t int) int) int {
periods:
	for p := 1; p < known; p++ {
		growth := value(start+p) - value(start)
		for t := start + 1; t < start+known; t++ {
			if value(t+p)-value(t) != growth {
				continue periods
			}
		}
		return p
	}
	return known
}
