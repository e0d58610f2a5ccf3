package family

import "slices"

func noOrders([]int) []int { return nil }

func oneOrder(s []int) []int { return []int{s[0]} }

func completeOrders(s []int) []int { return times(s[0], s[0]-2) }

func wheelOrders(s []int) []int {
	n := s[0]
	if n%2 == 1 {
		lucas := follow(2, 1, n)
		return []int{lucas, lucas}
	}
	fibonacci := follow(0, 1, n)
	return []int{fibonacci, 5 * fibonacci}
}

func bipartiteOrders(s []int) []int {
	m, n := s[0], s[1]
	if m == 1 || n == 1 {
		return nil
	}
	return slices.Concat(times(m, n-2), times(n, m-2), []int{m * n})
}

func thetaOrders(s []int) []int {
	k, m, n := s[0], s[1], s[2]
	d := divisor(divisor(k, m), n)
	return []int{d, (k*m + k*n + m*n) / d}
}

// times returns a list in which a number occurs some times, or not at all if they are less than 1.
func times(n, count int) []int { return slices.Repeat([]int{n}, max(count, 0)) }

// follow returns the number n, from 0 on, of the sequence that begins with a and b and in which each number is the sum of the two before.
func follow(a, b, n int) int {
	for range n {
		a, b = b, a+b
	}
	return a
}

// divisor returns the greatest common divisor of two numbers above 0.
func divisor(a, b int) int {
	for b > 0 {
		a, b = b, a%b
	}
	return a
}
