package sign

import "threshold/number"

// weight of signer i among all, whose numbers all differ: two that are equal would have a quotient by 0.
func weight(i int, all []int) number.Scalar {
	var parts []number.Scalar
	for _, j := range all {
		if j != i {
			above := number.Scalar(j)
			parts = append(parts, above.Over(above.Minus(number.Scalar(i))))
		}
	}
	return number.Together(number.Scalar.Times, 1, parts...)
}

func weights(all []int) []number.Scalar {
	out := make([]number.Scalar, len(all))
	for k, i := range all {
		out[k] = weight(i, all)
	}
	return out
}
